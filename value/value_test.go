package value_test

import (
	"math"
	"slices"
	"strings"
	"testing"

	"unison/api"
	"unison/value"
)

const most = api.MaxInt

var (
	null = api.Value{}
	no   = api.Value{Kind: api.Bool}
	yes  = api.Value{Kind: api.Bool, Int: 1}
)

func num(n int) api.Value { return api.Value{Kind: api.Int, Int: n} }

func text(s string) api.Value { return api.Value{Kind: api.Text, Text: s} }

// rightValues has every kind, the edges of each, and texts of all sorts of bytes.
func rightValues() []api.Value {
	return []api.Value{
		null, no, yes,
		num(0), num(1), num(-1), num(7), num(-7), num(most), num(-most), num(most - 1), num(1 - most), num(1 << 31), num(-1 << 31),
		text(""), text("a"), text("ab"), text("it's\n\\"), text("\x00"), text("\xff\xfe"), text("NULL"), text("é"),
		text(strings.Repeat("a", 64)), text(strings.Repeat("\x00", 64)), text(strings.Repeat("é", 32)),
	}
}

// wrongValues has one of each way in which a value is not right.
func wrongValues() []api.Value {
	return []api.Value{
		{Kind: api.Null, Int: 1}, {Kind: api.Null, Int: -1}, {Kind: api.Null, Text: "a"},
		num(most + 1), num(-most - 1), num(math.MaxInt), num(math.MinInt), {Kind: api.Int, Int: 3, Text: "a"}, {Kind: api.Int, Text: "\x00"},
		{Kind: api.Bool, Int: 2}, {Kind: api.Bool, Int: -1}, {Kind: api.Bool, Text: "a"}, {Kind: api.Bool, Int: 1, Text: "a"},
		{Kind: api.Text, Int: 1}, {Kind: api.Text, Int: -1, Text: "a"}, text(strings.Repeat("a", 65)), text(strings.Repeat("é", 33)), text(strings.Repeat("a", 5000)),
		{Kind: 4}, {Kind: -1}, {Kind: 4, Text: "a"}, {Kind: math.MaxInt}, {Kind: math.MinInt},
	}
}

func TestU1Right(t *testing.T) {
	for _, v := range rightValues() {
		if !value.Right(v) {
			t.Errorf("Right(%#v) = false", v)
		}
	}
	for _, v := range wrongValues() {
		if value.Right(v) {
			t.Errorf("Right(%#v) = true", v)
		}
	}
}

func sign(n int) int {
	switch {
	case n < 0:
		return -1
	case n > 0:
		return 1
	}
	return 0
}

func TestU2Order(t *testing.T) {
	rising := []api.Value{
		{Kind: math.MinInt}, {Kind: -1, Int: 9, Text: "z"},
		{Kind: api.Null, Int: -1}, null, {Kind: api.Null, Text: "a"}, {Kind: api.Null, Int: 1},
		num(math.MinInt), num(-most - 1), num(-most), num(-5), num(0), num(3), {Kind: api.Int, Int: 3, Text: "a"}, {Kind: api.Int, Int: 3, Text: "b"}, num(4), num(most), num(math.MaxInt),
		{Kind: api.Bool, Int: -1}, no, yes, {Kind: api.Bool, Int: 2},
		{Kind: api.Text, Int: -1, Text: "z"}, text(""), text("\x00"), text("A"), text("A\x00"), text("AB"), text("B"), text("a"), text("\x7f"), text("\x80"), text("\xff"), text("\xff\x00"), {Kind: api.Text, Int: 1},
		{Kind: 4}, {Kind: math.MaxInt},
	}
	for i, a := range rising {
		for k, b := range rising {
			if n := value.Order(a, b); n != sign(i-k) {
				t.Errorf("Order(%#v, %#v) = %d", a, b, n)
			}
		}
	}
}

func TestU3CompareTellsWhatHolds(t *testing.T) {
	pairs := [][2]api.Value{
		{num(3), num(5)}, {num(-most), num(most)}, {num(-1), num(0)},
		{no, yes},
		{text(""), text("a")}, {text("A"), text("a")}, {text("a"), text("ab")}, {text("\x7f"), text("\x80")},
	}
	// By op: what is told if the first one is less, the same, greater.
	answers := [7][3]api.Value{
		api.CmpEq: {no, yes, no}, api.CmpNe: {yes, no, yes},
		api.CmpLt: {yes, no, no}, api.CmpLe: {yes, yes, no},
		api.CmpGt: {no, no, yes}, api.CmpGe: {no, yes, yes},
	}
	for op := api.CmpEq; op <= api.CmpGe; op++ {
		for _, p := range pairs {
			wantCompare(t, op, p[0], p[1], answers[op][0], api.OK)
			wantCompare(t, op, p[0], p[0], answers[op][1], api.OK)
			wantCompare(t, op, p[1], p[1], answers[op][1], api.OK)
			wantCompare(t, op, p[1], p[0], answers[op][2], api.OK)
		}
	}
}

func TestU3CompareOfNullAndOfUnlikeKinds(t *testing.T) {
	for op := api.CmpEq; op <= api.CmpGe; op++ {
		for _, a := range rightValues() {
			wantCompare(t, op, a, null, null, api.OK)
			wantCompare(t, op, null, a, null, api.OK)
			for _, b := range rightValues() {
				if a != null && b != null && a.Kind != b.Kind {
					wantCompare(t, op, a, b, null, api.ErrType)
				}
			}
		}
	}
}

func TestU3CompareOfWhatIsWrong(t *testing.T) {
	for _, w := range wrongValues() {
		for _, v := range append(rightValues(), wrongValues()...) {
			wantCompare(t, api.CmpEq, w, v, null, api.ErrValue)
			wantCompare(t, api.CmpGe, v, w, null, api.ErrValue)
			wantCompare(t, 0, w, v, null, api.ErrArg)
			wantCompare(t, 7, v, w, null, api.ErrArg)
		}
	}
	for _, op := range []int{0, 7, -1, math.MinInt, math.MaxInt} {
		wantCompare(t, op, num(3), num(3), null, api.ErrArg)
		wantCompare(t, op, null, num(3), null, api.ErrArg)
		wantCompare(t, op, yes, num(3), null, api.ErrArg)
	}
}

func wantCompare(t *testing.T, op int, a, b, want api.Value, code api.Errno) {
	t.Helper()
	if v, e := value.Compare(op, a, b); v != want || e != code {
		t.Errorf("Compare(%d, %#v, %#v) = %#v, %d; want %#v, %d", op, a, b, v, e, want, code)
	}
}

// TestR5ArgumentsStay hands over lists with spare room: neither they nor the room may change.
func TestR5ArgumentsStay(t *testing.T) {
	calls := map[string]func(...api.Value) (api.Value, api.Errno){"And": value.And, "Or": value.Or, "Sum": value.Sum}
	for name, call := range calls {
		for _, whole := range [][]api.Value{{yes, no, null, yes}, {num(2), null, num(3), num(4)}, {num(2), yes, {Kind: 9}, null}} {
			before := slices.Clone(whole)
			call(whole[:3]...)
			if !slices.Equal(whole, before) {
				t.Errorf("%s changed %#v to %#v", name, before, whole)
			}
		}
	}
}
