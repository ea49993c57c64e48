package value_test

import (
	"slices"
	"testing"

	"unison/api"
	"unison/value"
)

func TestU8OrderIsAnOrder(t *testing.T) {
	all := append(rightValues(), wrongValues()...)
	for _, a := range all {
		for _, b := range all {
			ab := value.Order(a, b)
			if ab != -value.Order(b, a) || (ab == 0) != (a == b) {
				t.Errorf("Order(%#v, %#v) = %d, turned round %d", a, b, ab, value.Order(b, a))
			}
			for _, c := range all {
				if ab <= 0 && value.Order(b, c) <= 0 && value.Order(a, c) > 0 {
					t.Errorf("%#v, %#v, %#v rise, but the last stands ahead of the first", a, b, c)
				}
			}
		}
	}
}

// mustLogic is for lists of which no error is told.
func mustLogic(t *testing.T, call func(...api.Value) (api.Value, api.Errno), l ...api.Value) api.Value {
	t.Helper()
	v, e := call(l...)
	if e != api.OK {
		t.Fatalf("%#v: %d", l, e)
	}
	return v
}

func not(v ...api.Value) (api.Value, api.Errno) { return value.Not(v[0]) }

func TestU8AndOrHangOnWhatIsThere(t *testing.T) {
	for _, call := range []func(...api.Value) (api.Value, api.Errno){value.And, value.Or} {
		for _, l := range truthLists(4) {
			want := mustLogic(t, call, l...)
			turned := slices.Clone(l)
			slices.Reverse(turned)
			sorted := slices.SortedFunc(slices.Values(l), value.Order)
			for _, same := range [][]api.Value{turned, sorted, slices.Compact(slices.Clone(sorted)), append(turned, l...)} {
				if v := mustLogic(t, call, same...); v != want {
					t.Errorf("of %#v: %#v, of %#v: %#v", l, want, same, v)
				}
			}
		}
	}
}

func TestU8NotOfAndIsOrOfNots(t *testing.T) {
	for _, l := range truthLists(4) {
		var nots []api.Value
		for _, v := range l {
			nots = append(nots, mustLogic(t, not, v))
		}
		if a, b := mustLogic(t, not, mustLogic(t, value.And, l...)), mustLogic(t, value.Or, nots...); a != b {
			t.Errorf("%#v: Not of And is %#v, Or of Nots is %#v", l, a, b)
		}
		if a, b := mustLogic(t, not, mustLogic(t, value.Or, l...)), mustLogic(t, value.And, nots...); a != b {
			t.Errorf("%#v: Not of Or is %#v, And of Nots is %#v", l, a, b)
		}
	}
}

func TestU8SumLessOneIsTheOther(t *testing.T) {
	for _, a := range edges() {
		for _, b := range edges() {
			sum, e := value.Arith(api.OpAdd, num(a), num(b))
			if e == api.ErrOverflow {
				continue
			}
			wantArith(t, api.OpSub, sum, num(b), num(a), api.OK)
			wantArith(t, api.OpSub, sum, num(a), num(b), api.OK)
			wantSum(t, sum, e, num(a), num(b))
		}
	}
}

func TestU8QuotientTimesBAndRemainderAreA(t *testing.T) {
	for _, a := range edges() {
		for _, b := range edges() {
			if b == 0 {
				continue
			}
			quotient, _ := value.Arith(api.OpDiv, num(a), num(b))
			remainder, _ := value.Arith(api.OpMod, num(a), num(b))
			times, _ := value.Arith(api.OpMul, quotient, num(b))
			wantArith(t, api.OpAdd, times, remainder, num(a), api.OK)
		}
	}
}

func TestU8ParseOfPrintIsTheValue(t *testing.T) {
	all := rightValues()
	for _, n := range edges() {
		all = append(all, num(n))
	}
	for _, v := range all {
		s, e := value.Print(v)
		if e != api.OK {
			t.Errorf("Print(%#v): %d", v, e)
		}
		wantParse(t, s, v, api.OK)
	}
}
