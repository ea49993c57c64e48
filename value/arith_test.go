package value_test

import (
	"math"
	"math/big"
	"slices"
	"testing"

	"unison/api"
	"unison/value"
)

const (
	pastBy5  = (most + 1) / 5 // 5 times this is one past the limit
	belowBy3 = (most - 1) / 3 // 3 times this is one below it
)

// edges are numbers at which an outcome comes to 2^62, or one past it, on either side.
func edges() []int {
	l := []int{0, 1, 2, 3, 5, 7, 10, 1<<31 - 1, 1 << 31, 1<<31 + 1, 1 << 32, 1<<61 - 1, 1 << 61, 1<<61 + 1, most - 1, most, 3037000499, 3037000500, pastBy5, belowBy3}
	for _, n := range slices.Clone(l) {
		l = append(l, -n)
	}
	return l
}

// fit is what a number of any size is told as.
func fit(n *big.Int) (api.Value, api.Errno) {
	if n.CmpAbs(big.NewInt(most)) > 0 {
		return null, api.ErrOverflow
	}
	return num(int(n.Int64())), api.OK
}

// exact reckons without bounds; of a division by 0 it tells nil.
func exact(op, a, b int) *big.Int {
	x, y, z := big.NewInt(int64(a)), big.NewInt(int64(b)), new(big.Int)
	switch op {
	case api.OpAdd:
		return z.Add(x, y)
	case api.OpSub:
		return z.Sub(x, y)
	case api.OpMul:
		return z.Mul(x, y)
	}
	if b == 0 {
		return nil
	}
	if op == api.OpDiv {
		return z.Quo(x, y)
	}
	return z.Rem(x, y)
}

func wantArith(t *testing.T, op int, a, b, want api.Value, code api.Errno) {
	t.Helper()
	if v, e := value.Arith(op, a, b); v != want || e != code {
		t.Errorf("Arith(%d, %#v, %#v) = %#v, %d; want %#v, %d", op, a, b, v, e, want, code)
	}
}

func TestU5ArithOfExamples(t *testing.T) {
	wantArith(t, api.OpAdd, num(2), num(5), num(7), api.OK)
	wantArith(t, api.OpSub, num(2), num(5), num(-3), api.OK)
	wantArith(t, api.OpMul, num(-2), num(5), num(-10), api.OK)
	wantArith(t, api.OpDiv, num(-7), num(2), num(-3), api.OK)
	wantArith(t, api.OpMod, num(-7), num(2), num(-1), api.OK)
	wantArith(t, api.OpDiv, num(7), num(-2), num(-3), api.OK)
	wantArith(t, api.OpMod, num(7), num(-2), num(1), api.OK)
	wantArith(t, api.OpAdd, num(most), num(1), null, api.ErrOverflow)
	wantArith(t, api.OpAdd, num(most), num(most), null, api.ErrOverflow)
	wantArith(t, api.OpSub, num(-most), num(1), null, api.ErrOverflow)
	wantArith(t, api.OpSub, num(-most), num(most), null, api.ErrOverflow)
	wantArith(t, api.OpSub, num(most), num(-most), null, api.ErrOverflow)
	wantArith(t, api.OpMul, num(1<<31), num(1<<31), num(most), api.OK)
	wantArith(t, api.OpMul, num(1<<31), num(-1<<31), num(-most), api.OK)
	wantArith(t, api.OpMul, num(1<<32), num(1<<32), null, api.ErrOverflow)
	wantArith(t, api.OpMul, num(belowBy3), num(-3), num(1-most), api.OK)
	wantArith(t, api.OpMul, num(pastBy5), num(5), null, api.ErrOverflow)
	wantArith(t, api.OpMul, num(-5), num(pastBy5), null, api.ErrOverflow)
	wantArith(t, api.OpMul, num(most), num(4), null, api.ErrOverflow)
	wantArith(t, api.OpMul, num(-most), num(-1), num(most), api.OK)
	wantArith(t, api.OpDiv, num(-most), num(-1), num(most), api.OK)
}

func TestU5ArithAtTheEdges(t *testing.T) {
	for op := api.OpAdd; op <= api.OpMod; op++ {
		for _, a := range edges() {
			for _, b := range edges() {
				n := exact(op, a, b)
				if n == nil {
					wantArith(t, op, num(a), num(b), null, api.ErrZero)
					continue
				}
				want, code := fit(n)
				wantArith(t, op, num(a), num(b), want, code)
			}
		}
	}
}

func TestU5ArithOfWhatIsWrong(t *testing.T) {
	for op := api.OpAdd; op <= api.OpMod; op++ {
		for _, v := range []api.Value{null, num(0), num(most)} {
			wantArith(t, op, null, v, null, api.OK)
			wantArith(t, op, v, null, null, api.OK)
		}
		for _, v := range []api.Value{no, yes, text(""), text("1")} {
			for _, w := range rightValues() {
				wantArith(t, op, v, w, null, api.ErrType)
				wantArith(t, op, w, v, null, api.ErrType)
			}
		}
		for _, w := range wrongValues() {
			for _, v := range append(rightValues(), wrongValues()...) {
				wantArith(t, op, w, v, null, api.ErrValue)
				wantArith(t, op, v, w, null, api.ErrValue)
			}
		}
	}
	for _, op := range []int{0, 6, -1, math.MinInt, math.MaxInt} {
		for _, v := range append(rightValues(), wrongValues()...) {
			wantArith(t, op, v, num(1), null, api.ErrArg)
			wantArith(t, op, num(1), v, null, api.ErrArg)
		}
	}
}

func wantNeg(t *testing.T, v, want api.Value, code api.Errno) {
	t.Helper()
	if got, e := value.Neg(v); got != want || e != code {
		t.Errorf("Neg(%#v) = %#v, %d; want %#v, %d", v, got, e, want, code)
	}
}

func TestU5Neg(t *testing.T) {
	for _, n := range edges() {
		wantNeg(t, num(n), num(-n), api.OK)
	}
	wantNeg(t, null, null, api.OK)
	for _, v := range []api.Value{no, yes, text(""), text("1")} {
		wantNeg(t, v, null, api.ErrType)
	}
	for _, w := range wrongValues() {
		wantNeg(t, w, null, api.ErrValue)
	}
}

func wantSum(t *testing.T, want api.Value, code api.Errno, l ...api.Value) {
	t.Helper()
	if v, e := value.Sum(l...); v != want || e != code {
		t.Errorf("Sum(%#v) = %#v, %d; want %#v, %d", l, v, e, want, code)
	}
}

func TestU6Sum(t *testing.T) {
	wantSum(t, null, api.OK)
	wantSum(t, null, api.OK, null)
	wantSum(t, null, api.OK, null, null)
	wantSum(t, num(0), api.OK, num(0))
	wantSum(t, num(0), api.OK, num(3), num(-3), null)
	wantSum(t, num(5), api.OK, num(2), null, num(3))
	wantSum(t, num(5), api.OK, null, num(2), num(3))
	wantSum(t, num(most), api.OK, num(most), null)
	wantSum(t, num(-most), api.OK, num(-most))
	wantSum(t, null, api.ErrOverflow, num(most), num(1))
	wantSum(t, null, api.ErrOverflow, num(-most), num(-1))
	wantSum(t, num(most), api.OK, num(most), num(1), num(-1))
	wantSum(t, num(-most), api.OK, num(-most), num(-1), num(1))
}

// TestU6SumFarOut adds up what 64 bits can't hold: there so many times 2^62 would come round to 0.
func TestU6SumFarOut(t *testing.T) {
	for _, side := range []int{1, -1} {
		for times := 2; times <= 40; times++ {
			out := slices.Repeat([]api.Value{num(side * most)}, times)
			wantSum(t, null, api.ErrOverflow, out...)
			back := slices.Repeat([]api.Value{num(-side * most)}, times)
			wantSum(t, num(0), api.OK, append(slices.Clone(out), back...)...)
			wantSum(t, num(side*most), api.OK, append(slices.Clone(out), back[1:]...)...)
			wantSum(t, null, api.ErrOverflow, append(append(slices.Clone(out), back[1:]...), num(side))...)
			wantSum(t, num(-side*most), api.OK, append(slices.Clone(out[1:]), back...)...)
		}
	}
}

func TestU6SumInAnyOrder(t *testing.T) {
	for _, a := range edges() {
		for _, b := range edges() {
			for _, c := range []int{0, 1, -1, most, -most} {
				all := new(big.Int).Add(exact(api.OpAdd, a, b), big.NewInt(int64(c)))
				want, code := fit(all)
				wantSum(t, want, code, num(a), num(b), num(c))
				wantSum(t, want, code, num(c), null, num(b), num(a))
				wantSum(t, want, code, num(b), num(c), num(a), null)
			}
		}
	}
}

func TestU6SumOfWhatIsWrong(t *testing.T) {
	for _, v := range []api.Value{no, yes, text(""), text("1")} {
		wantSum(t, null, api.ErrType, v)
		wantSum(t, null, api.ErrType, num(2), v)
		wantSum(t, null, api.ErrType, v, null)
		wantSum(t, null, api.ErrType, num(most), num(most), v)
	}
	for _, w := range wrongValues() {
		wantSum(t, null, api.ErrValue, w)
		wantSum(t, null, api.ErrValue, yes, w)
		wantSum(t, null, api.ErrValue, w, yes)
		wantSum(t, null, api.ErrValue, num(most), num(most), text("a"), w)
	}
}
