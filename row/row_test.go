package row_test

import (
	"encoding/hex"
	"math"
	"slices"
	"strings"
	"testing"

	"unison/api"
	"unison/row"
)

const most = api.MaxInt

var (
	null = api.Value{}
	no   = api.Value{Kind: api.Bool}
	yes  = api.Value{Kind: api.Bool, Int: 1}
)

func num(n int) api.Value { return api.Value{Kind: api.Int, Int: n} }

func text(s string) api.Value { return api.Value{Kind: api.Text, Text: s} }

func list(l ...api.Value) []api.Value { return l }

// bytesOf reads hexadecimal digits, between which blanks may stand.
func bytesOf(t testing.TB, digits string) string {
	t.Helper()
	b, err := hex.DecodeString(strings.ReplaceAll(digits, " ", ""))
	if err != nil {
		t.Fatal(err)
	}
	return string(b)
}

// wrongValues has one of each way in which a value is not right; some would be told as a right one's bytes, if they were cut to them.
func wrongValues() []api.Value {
	return []api.Value{
		{Kind: api.Null, Int: 1}, {Kind: api.Null, Text: "a"},
		num(most + 1), num(-most - 1), num(math.MaxInt), num(math.MinInt), {Kind: api.Int, Int: 3, Text: "a"},
		{Kind: api.Bool, Int: 2}, {Kind: api.Bool, Int: -1}, {Kind: api.Bool, Int: 256}, {Kind: api.Bool, Int: 257}, {Kind: api.Bool, Int: 1, Text: "a"},
		{Kind: api.Text, Int: 1}, text(strings.Repeat("a", 65)), text(strings.Repeat("a", 256)), text(strings.Repeat("é", 33)),
		{Kind: 4}, {Kind: 5}, {Kind: 256}, {Kind: -1}, {Kind: -4}, {Kind: math.MaxInt}, {Kind: math.MinInt},
	}
}

// written are lists and the digits of their rows' bytes, as the chapter's section Bytes has them.
func written() []struct {
	values []api.Value
	digits string
} {
	return []struct {
		values []api.Value
		digits string
	}{
		{nil, "00"},
		{list(), "00"},
		{list(null), "01 00"},
		{list(no), "01 02 00"},
		{list(yes), "01 02 01"},
		{list(num(0)), "01 01 00"},
		{list(num(1)), "01 01 02"},
		{list(num(-1)), "01 01 01"},
		{list(num(-2)), "01 01 03"},
		{list(num(63)), "01 01 7e"},
		{list(num(-64)), "01 01 7f"},
		{list(num(64)), "01 01 8001"},
		{list(num(-65)), "01 01 8101"},
		{list(num(128)), "01 01 8002"},
		{list(num(8191)), "01 01 fe7f"},
		{list(num(-8192)), "01 01 ff7f"},
		{list(num(8192)), "01 01 808001"},
		{list(num(-8193)), "01 01 818001"},
		{list(num(most)), "01 01 80808080808080808001"},
		{list(num(most - 1)), "01 01 feffffffffffffff7f"},
		{list(num(-most)), "01 01 ffffffffffffffff7f"},
		{list(num(1 - most)), "01 01 fdffffffffffffff7f"},
		{list(text("")), "01 03 00"},
		{list(text("a")), "01 03 01 61"},
		{list(text("\x00")), "01 03 01 00"},
		{list(text("a\x00\xff")), "01 03 03 6100ff"},
		{list(text("é")), "01 03 02 c3a9"},
		{list(text(strings.Repeat("a", 64))), "01 03 40" + strings.Repeat("61", 64)},
		{list(null, num(1), yes, text("a")), "04 e4 02 01 0161"},
		{list(text("a"), yes, num(1), null), "04 1b 0161 01 02"},
		{list(null, null), "02 00"},
		{list(null, text("")), "02 0c 00"},
		{list(text(""), null), "02 03 00"},
		{list(num(3), null, num(-3)), "03 11 06 05"},
		{list(no, no, no, no, num(0)), "05 aa01 00000000 00"},
		{make([]api.Value, 4), "04 00"},
		{make([]api.Value, 5), "05 0000"},
		{make([]api.Value, 8), "08 0000"},
		{make([]api.Value, 9), "09 000000"},
		{make([]api.Value, 16), "10 00000000"},
		{append(make([]api.Value, 15), text("z")), "10 000000c0 017a"},
		{slices.Repeat(list(text("\xff")), 13), "0d ffffff03" + strings.Repeat("01ff", 13)},
		{slices.Repeat(list(num(-64)), 16), "10 55555555" + strings.Repeat("7f", 16)},
		{slices.Repeat(list(num(most)), 16), "10 55555555" + strings.Repeat("80808080808080808001", 16)},
		{slices.Repeat(list(text(strings.Repeat("\x00", 64))), 16), "10 ffffffff" + strings.Repeat("40"+strings.Repeat("00", 64), 16)},
	}
}

func TestW1Encode(t *testing.T) {
	for _, c := range written() {
		if s, e := row.Encode(c.values...); s != bytesOf(t, c.digits) || e != api.OK {
			t.Errorf("Encode(%#v) = %x, %d", c.values, s, e)
		}
	}
}

// tooLong are lists of more than 16 values; one of them has wrong ones, which ErrLong goes ahead of.
func tooLong() [][]api.Value {
	return [][]api.Value{
		make([]api.Value, 17), make([]api.Value, 256), make([]api.Value, 257), make([]api.Value, 5000),
		slices.Repeat(list(text("a")), 17), slices.Repeat(wrongValues()[:1], 17),
	}
}

func TestW1EncodeLong(t *testing.T) {
	for _, l := range tooLong() {
		if s, e := row.Encode(l...); s != "" || e != api.ErrLong {
			t.Errorf("Encode of %d values = %x, %d", len(l), s, e)
		}
	}
}

// withWrong are lists of up to 16 values of which one, at each place in turn, is not right.
func withWrong() [][]api.Value {
	var all [][]api.Value
	for _, v := range wrongValues() {
		for at := range api.MaxColumns {
			l := slices.Repeat(list(num(1)), api.MaxColumns)
			l[at] = v
			all = append(all, l, l[:at+1], l[at:])
		}
	}
	return all
}

func TestW1EncodeWrong(t *testing.T) {
	for _, l := range withWrong() {
		if s, e := row.Encode(l...); s != "" || e != api.ErrValue {
			t.Errorf("Encode(%#v) = %x, %d", l, s, e)
		}
	}
}

func TestW2Decode(t *testing.T) {
	for _, c := range written() {
		if l, e := row.Decode(bytesOf(t, c.digits)); !slices.Equal(l, c.values) || e != api.OK {
			t.Errorf("Decode(%s) = %#v, %d", c.digits, l, e)
		}
	}
}

// noRows are digits of texts that are no row's bytes.
func noRows() []string {
	return []string{
		// nothing; the Kinds, or some of them, are missing
		"", "01", "04", "05 00", "10 000000", "11", "ff",
		// bits are left over
		"01 04", "01 10", "01 40", "01 80", "02 10", "03 40", "05 00 04", "01 05 00 00", "0f 000000c0 00",
		// bytes are left over
		"00 00", "00 01", "01 00 00", "01 01 00 00", "01 02 01 00", "01 03 00 00", "01 03 01 61 61", "04 00 00", "10 00000000 00",
		// values are missing, or a part of one
		"01 01", "01 02", "01 03", "02 05 00", "02 0a 00", "02 0f 00", "02 0d 01", "01 03 01", "01 03 02 61", "01 03 40" + strings.Repeat("61", 63),
		"01 01 80", "01 01 ff", "01 01 8080", "01 01" + strings.Repeat("80", 9), "01 01" + strings.Repeat("80", 10), "01 01" + strings.Repeat("ff", 5000),
		// digits of which there is no need
		"01 01 8000", "01 01 8100", "01 01 808000", "01 01 ff00", "01 01 feffffffffffffff ff00", "01 01 808080808080808080 00", "01 01 808080808080808080 8100", "01 01" + strings.Repeat("80", 5000) + "00",
		// numbers that are beyond 2^62, and some that wrap round
		"01 01 818080808080808080 01", "01 01 828080808080808080 01", "01 01 ffffffffffffffffff 01", "01 01 808080808080808080 02", "01 01 808080808080808080 03", "01 01 828080808080808080 02", "01 01 ffffffffffffffffff 7f", "01 01 828080808080808080 8001", "01 01 828080808080808080 808001",
		// neither FALSE nor TRUE
		"01 02 02", "01 02 03", "01 02 80", "01 02 ff", "02 0a 01 02",
		// texts of more than 64 bytes
		"01 03 41" + strings.Repeat("61", 65), "01 03 80" + strings.Repeat("61", 128), "01 03 ff" + strings.Repeat("61", 255), "01 03 41" + strings.Repeat("61", 64),
		// more than 16 values
		"11 0000000000", "11 5555555501" + strings.Repeat("00", 17), "14 0000000000", "80" + strings.Repeat("00", 32), "ff" + strings.Repeat("00", 64), "11" + strings.Repeat("00", 5000),
	}
}

func TestW2DecodeNoRow(t *testing.T) {
	for _, digits := range noRows() {
		if l, e := row.Decode(bytesOf(t, digits)); len(l) != 0 || e != api.ErrRow {
			t.Errorf("Decode(%s) = %#v, %d", digits, l, e)
		}
	}
}

// Every beginning of a row's bytes, and they with a byte more, is no row's.
func TestW2DecodeCut(t *testing.T) {
	for _, c := range written() {
		s := bytesOf(t, c.digits)
		for n := range len(s) {
			if l, e := row.Decode(s[:n]); len(l) != 0 || e != api.ErrRow {
				t.Errorf("Decode(%x), %d bytes of %x: %#v, %d", s[:n], n, s, l, e)
			}
		}
		for b := range 256 {
			if l, e := row.Decode(s + string([]byte{byte(b)})); len(l) != 0 || e != api.ErrRow {
				t.Errorf("Decode(%x%02x) = %#v, %d", s, b, l, e)
			}
		}
	}
}

func TestW3Size(t *testing.T) {
	for _, c := range written() {
		if n, e := row.Size(c.values...); n != len(bytesOf(t, c.digits)) || e != api.OK {
			t.Errorf("Size(%#v) = %d, %d", c.values, n, e)
		}
	}
	for _, c := range []struct {
		values []api.Value
		size   int
	}{
		{list(num(most)), 12}, {list(num(most - 1)), 11}, {list(num(-most)), 11}, {list(text(strings.Repeat("a", 64))), 67}, {list(null), 2}, {nil, 1},
		{slices.Repeat(list(text(strings.Repeat("a", 64))), 16), 1045},
	} {
		if n, e := row.Size(c.values...); n != c.size || e != api.OK {
			t.Errorf("Size(%#v) = %d, %d, not %d", c.values, n, e, c.size)
		}
	}
}

// One digit more is needed from half of each power of 128 on; below 0 the half itself needs none.
func TestW3SizeOfNumbers(t *testing.T) {
	half := 1
	for digits := 1; digits <= 9; digits++ {
		half = 1 << (7*digits - 1)
		for n, want := range map[int]int{half - 1: digits, half: digits + 1, -half: digits} {
			if size, e := row.Size(num(n)); size != 2+want || e != api.OK {
				t.Errorf("Size(%d) = %d, %d, not %d", n, size, e, 2+want)
			}
		}
		if size, e := row.Size(num(-half - 1)); digits < 9 && (size != 3+digits || e != api.OK) {
			t.Errorf("Size(%d) = %d, %d, not %d", -half-1, size, e, 3+digits)
		}
	}
	if half != most {
		t.Errorf("the last half is %d", half)
	}
}

func TestW3SizeErrors(t *testing.T) {
	for _, l := range tooLong() {
		if n, e := row.Size(l...); n != 0 || e != api.ErrLong {
			t.Errorf("Size of %d values = %d, %d", len(l), n, e)
		}
	}
	for _, l := range withWrong() {
		if n, e := row.Size(l...); n != 0 || e != api.ErrValue {
			t.Errorf("Size(%#v) = %d, %d", l, n, e)
		}
	}
}

func TestR5ArgumentsStay(t *testing.T) {
	room := append(rightValues()[:16], rightValues()...)
	was := slices.Clone(room)
	row.Encode(room[:16]...)
	row.Encode(room[:3]...)
	row.Encode(room...)
	row.Size(room[:16]...)
	row.Size(room...)
	if !slices.Equal(room, was) {
		t.Error("a list that was handed in has changed")
	}
}

func TestR5AnswersAreNew(t *testing.T) {
	s := "\x02\x0c\x01a"
	first, _ := row.Decode(s)
	first[0], first[1] = yes, no
	first = append(first, yes)
	if again, e := row.Decode(s); !slices.Equal(again, list(null, text("a"))) || e != api.OK {
		t.Errorf("Decode told %#v, %d behind a change of what it told before", again, e)
	}
}
