package value

import (
	"math/bits"

	"unison/api"
)

// Arith reckons with two.
func Arith(op int, a, b api.Value) (api.Value, api.Errno) {
	if op < api.OpAdd || op > api.OpMod {
		return null(), api.ErrArg
	}
	if e := admit(api.Int, a, b); e != api.OK {
		return null(), e
	}
	if a.Kind == api.Null || b.Kind == api.Null {
		return null(), api.OK
	}
	if (op == api.OpDiv || op == api.OpMod) && b.Int == 0 {
		return null(), api.ErrZero
	}
	n, ok := reckon(op, a.Int, b.Int)
	if !ok {
		return null(), api.ErrOverflow
	}
	return number(n), api.OK
}

// reckon tells false where the outcome is no number. A sum or a difference of two numbers is at most 2^63 on either side of 0: where 64 bits wrap it round, it comes to -2^63, which is out of range as well.
func reckon(op, a, b int) (int, bool) {
	switch op {
	case api.OpAdd:
		return a + b, inRange(a + b)
	case api.OpSub:
		return a - b, inRange(a - b)
	case api.OpMul:
		return product(a, b)
	case api.OpDiv:
		return a / b, true
	}
	return a % b, true
}

// product goes by the numbers' sizes, since the product in 128 bits knows no signs.
func product(a, b int) (int, bool) {
	high, low := bits.Mul64(size(a), size(b))
	if high != 0 || low > api.MaxInt {
		return 0, false
	}
	if (a < 0) != (b < 0) {
		return -int(low), true
	}
	return int(low), true
}

// size is how far a number is from 0.
func size(n int) uint64 {
	if n < 0 {
		return uint64(-n)
	}
	return uint64(n)
}

// Neg is the opposite.
func Neg(v api.Value) (api.Value, api.Errno) {
	if e := admit(api.Int, v); e != api.OK {
		return null(), e
	}
	if v.Kind == api.Null {
		return null(), api.OK
	}
	return number(-v.Int), api.OK
}

// Sum is what all numbers are together.
func Sum(l ...api.Value) (api.Value, api.Errno) {
	if e := admit(api.Int, l...); e != api.OK {
		return null(), e
	}
	var total wide
	met := false
	for _, v := range l {
		if v.Kind == api.Int {
			total, met = total.plus(v.Int), true
		}
	}
	if !met {
		return null(), api.OK
	}
	n, ok := total.narrow()
	if !ok {
		return null(), api.ErrOverflow
	}
	return number(n), api.OK
}

// wide is a number of 128 bits in two's complement: what is added up on the way may lie far outside of what the whole comes to.
type wide struct{ high, low uint64 }

func (w wide) plus(n int) wide {
	low, carry := bits.Add64(w.low, uint64(n), 0)
	high, _ := bits.Add64(w.high, signs(n), carry)
	return wide{high, low}
}

// narrow tells false where it is out of a number's range.
func (w wide) narrow() (int, bool) {
	n := int(w.low)
	return n, w.high == signs(n) && inRange(n)
}

// signs is the upper half of a number that is made wide.
func signs(n int) uint64 { return uint64(n >> 63) }

func inRange(n int) bool { return -api.MaxInt <= n && n <= api.MaxInt }
