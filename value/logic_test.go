package value_test

import (
	"slices"
	"testing"

	"unison/api"
	"unison/value"
)

// truthLists are all lists of so many truths and NULLs at most.
func truthLists(length int) [][]api.Value {
	all := [][]api.Value{nil}
	for first := 0; length > 0; length-- {
		last := len(all)
		for ; first < last; first++ {
			for _, v := range []api.Value{no, yes, null} {
				all = append(all, append(slices.Clone(all[first]), v))
			}
		}
	}
	return all
}

// decide is the definition: what decides, else NULL, else what is told of none.
func decide(l []api.Value, by, none api.Value) api.Value {
	for _, v := range []api.Value{by, null} {
		if slices.Contains(l, v) {
			return v
		}
	}
	return none
}

func wantLogic(t *testing.T, l []api.Value, and, or api.Value, code api.Errno) {
	t.Helper()
	if v, e := value.And(l...); v != and || e != code {
		t.Errorf("And(%#v) = %#v, %d; want %#v, %d", l, v, e, and, code)
	}
	if v, e := value.Or(l...); v != or || e != code {
		t.Errorf("Or(%#v) = %#v, %d; want %#v, %d", l, v, e, or, code)
	}
}

func TestU4AndOr(t *testing.T) {
	wantLogic(t, nil, yes, no, api.OK)
	wantLogic(t, []api.Value{}, yes, no, api.OK)
	wantLogic(t, []api.Value{null}, null, null, api.OK)
	wantLogic(t, []api.Value{yes, null}, null, yes, api.OK)
	wantLogic(t, []api.Value{no, null}, no, null, api.OK)
	for _, l := range truthLists(5) {
		wantLogic(t, l, decide(l, no, yes), decide(l, yes, no), api.OK)
	}
}

func TestU4AndOrOfWhatIsWrong(t *testing.T) {
	for _, l := range truthLists(2) {
		for place := range len(l) + 1 {
			for _, v := range []api.Value{num(0), num(1), text(""), text("TRUE")} {
				wantLogic(t, slices.Insert(slices.Clone(l), place, v), null, null, api.ErrType)
			}
			for _, w := range wrongValues() {
				wantLogic(t, slices.Insert(slices.Clone(l), place, w), null, null, api.ErrValue)
			}
		}
	}
	for _, w := range wrongValues() {
		wantLogic(t, []api.Value{num(1), w}, null, null, api.ErrValue)
		wantLogic(t, []api.Value{w, num(1)}, null, null, api.ErrValue)
		wantLogic(t, []api.Value{no, yes, text("a"), w}, null, null, api.ErrValue)
	}
}

func wantNot(t *testing.T, v, want api.Value, code api.Errno) {
	t.Helper()
	if got, e := value.Not(v); got != want || e != code {
		t.Errorf("Not(%#v) = %#v, %d; want %#v, %d", v, got, e, want, code)
	}
}

func TestU4Not(t *testing.T) {
	wantNot(t, yes, no, api.OK)
	wantNot(t, no, yes, api.OK)
	wantNot(t, null, null, api.OK)
	for _, v := range rightValues() {
		if v.Kind == api.Int || v.Kind == api.Text {
			wantNot(t, v, null, api.ErrType)
		}
	}
	for _, w := range wrongValues() {
		wantNot(t, w, null, api.ErrValue)
	}
}
