package key_test

import (
	"encoding/hex"
	"math"
	"slices"
	"strings"
	"testing"

	"unison/api"
	"unison/key"
	"unison/value"
)

const most = api.MaxInt

var (
	null = api.Value{}
	no   = api.Value{Kind: api.Bool}
	yes  = api.Value{Kind: api.Bool, Int: 1}
)

func num(n int) api.Value { return api.Value{Kind: api.Int, Int: n} }

func text(s string) api.Value { return api.Value{Kind: api.Text, Text: s} }

func list(l ...api.Value) []api.Value { return l }

// bytesOf reads hexadecimal digits, between which blanks may stand.
func bytesOf(t testing.TB, digits string) string {
	t.Helper()
	b, err := hex.DecodeString(strings.ReplaceAll(digits, " ", ""))
	if err != nil {
		t.Fatal(err)
	}
	return string(b)
}

// rightValues has every kind, the edges of each, and texts in which the bytes 0, 1, 254 and 255 stand at all sorts of places.
func rightValues() []api.Value {
	return []api.Value{
		null, no, yes,
		num(0), num(1), num(-1), num(255), num(256), num(-256), num(-257), num(most), num(-most), num(most - 1), num(1 - most), num(1 << 31), num(-1 << 31),
		text(""), text("a"), text("a\x00"), text("a\x00b"), text("a\x01"), text("ab"), text("b"),
		text("\x00"), text("\x00\x00"), text("\x00\x01"), text("\x00\xfe"), text("\x00\xff"), text("\x00\xff\x00"), text("\x00\xff\xff"), text("\x00a"), text("\x01"), text("\x04"),
		text("\xfe"), text("\xff"), text("\xff\x00"), text("\xff\x00\x00"), text("\xff\xff"), text("é"),
		text(strings.Repeat("a", 64)), text(strings.Repeat("\x00", 64)), text(strings.Repeat("\xff", 64)), text(strings.Repeat("é", 32)),
	}
}

// wrongValues has one of each way in which a value is not right.
func wrongValues() []api.Value {
	return []api.Value{
		{Kind: api.Null, Int: 1}, {Kind: api.Null, Text: "a"},
		num(most + 1), num(-most - 1), num(math.MaxInt), num(math.MinInt), {Kind: api.Int, Int: 3, Text: "a"},
		{Kind: api.Bool, Int: 2}, {Kind: api.Bool, Int: -1}, {Kind: api.Bool, Int: 257}, {Kind: api.Bool, Int: 1, Text: "a"},
		{Kind: api.Text, Int: 1}, text(strings.Repeat("a", 65)), text(strings.Repeat("\x00", 65)), text(strings.Repeat("é", 33)),
		{Kind: 4}, {Kind: -1}, {Kind: math.MaxInt}, {Kind: math.MinInt},
	}
}

// written are lists and the digits of their keys, as the chapter's section Bytes has them.
func written() []struct {
	values []api.Value
	digits string
} {
	return []struct {
		values []api.Value
		digits string
	}{
		{nil, ""},
		{list(), ""},
		{list(null), "01"},
		{list(no), "0300"},
		{list(yes), "0301"},
		{list(null, yes), "01 0301"},
		{list(num(0)), "02 8000000000000000"},
		{list(num(1)), "02 8000000000000001"},
		{list(num(-1)), "02 7fffffffffffffff"},
		{list(num(0x0123456789abcdef)), "02 8123456789abcdef"},
		{list(num(most)), "02 c000000000000000"},
		{list(num(-most)), "02 4000000000000000"},
		{list(text("")), "04 0000"},
		{list(text("a")), "04 61 0000"},
		{list(text("\x00")), "04 00ff 0000"},
		{list(text("\xff")), "04 ff 0000"},
		{list(text("\x00\xff")), "04 00ffff 0000"},
		{list(text("\x00\x00")), "04 00ff00ff 0000"},
		{list(text("a\x00b\x01")), "04 6100ff6201 0000"},
		{list(text("é")), "04 c3a9 0000"},
		{list(text(strings.Repeat("a", 64))), "04" + strings.Repeat("61", 64) + "0000"},
		{list(text(strings.Repeat("\x00", 64))), "04" + strings.Repeat("00ff", 64) + "0000"},
		{list(text(""), null), "04 0000 01"},
		{list(num(1), text("a"), no, null, text("")), "02 8000000000000001 04 61 0000 0300 01 04 0000"},
		{make([]api.Value, 8), "0101010101010101"},
		{slices.Repeat(list(text("\x00")), 8), strings.Repeat("0400ff0000", 8)},
	}
}

func TestY1Encode(t *testing.T) {
	for _, c := range written() {
		if s, e := key.Encode(c.values...); s != bytesOf(t, c.digits) || e != api.OK {
			t.Errorf("Encode(%#v) = %x, %d", c.values, s, e)
		}
	}
}

func TestY1EncodeLong(t *testing.T) {
	wrong := slices.Repeat(wrongValues()[:1], 9)
	for _, l := range [][]api.Value{make([]api.Value, 9), make([]api.Value, 5000), slices.Repeat(list(text("a")), 9), wrong} {
		if s, e := key.Encode(l...); s != "" || e != api.ErrLong {
			t.Errorf("Encode of %d values = %x, %d", len(l), s, e)
		}
	}
	if s, e := key.Encode(wrong[:8]...); s != "" || e != api.ErrValue {
		t.Errorf("Encode of 8 wrong ones = %x, %d", s, e)
	}
}

func TestY1EncodeWrong(t *testing.T) {
	for _, v := range wrongValues() {
		for at := range 8 {
			l := slices.Repeat(list(num(1)), 8)
			l[at] = v
			if s, e := key.Encode(l...); s != "" || e != api.ErrValue {
				t.Errorf("Encode with %#v at %d = %x, %d", v, at, s, e)
			}
			if s, e := key.Encode(l[:at+1]...); s != "" || e != api.ErrValue {
				t.Errorf("Encode of %d with %#v as the last = %x, %d", at+1, v, s, e)
			}
		}
	}
}

func TestY2Decode(t *testing.T) {
	for _, c := range written() {
		if l, e := key.Decode(bytesOf(t, c.digits)); !slices.Equal(l, c.values) || e != api.OK {
			t.Errorf("Decode(%s) = %#v, %d", c.digits, l, e)
		}
	}
}

// noKeys are digits of texts that are the key of no list.
func noKeys() []string {
	return []string{
		"00", "05", "ff", "61", "00 01", "01 00", "01 05",
		"02", "02 80", "02 80000000000000", "01 02 00", "02 8000000000000001 00",
		"02 0000000000000000", "02 3fffffffffffffff", "02 c000000000000001", "02 ffffffffffffffff",
		"03", "0302", "03ff", "0380", "0301 03",
		"04", "04 61", "04 00", "04 61 00", "04 0001", "04 0001 0000", "04 00fe 0000", "04 0061 0000", "04 00ff", "04 00ff00", "04 00ff 61", "04 0000 00", "04 00ff 0000 00", "04 0000ff",
		"04" + strings.Repeat("61", 65) + "0000", "04" + strings.Repeat("00ff", 65) + "0000", "04" + strings.Repeat("61", 5000) + "0000",
		strings.Repeat("01", 9), strings.Repeat("0301", 9), strings.Repeat("040000", 9), strings.Repeat("028000000000000000", 9), strings.Repeat("01", 5000),
		strings.Repeat("01", 8) + "00", strings.Repeat("01", 8) + "04",
	}
}

func TestY2DecodeNoKey(t *testing.T) {
	for _, digits := range noKeys() {
		s := bytesOf(t, digits)
		if l, e := key.Decode(s); len(l) != 0 || e != api.ErrKey {
			t.Errorf("Decode(%x) = %#v, %d", s, l, e)
		}
		if l, e := key.Decode("\x01" + s); len(l) != 0 || e != api.ErrKey {
			t.Errorf("Decode(01%x) = %#v, %d", s, l, e)
		}
	}
}

// shortTexts are all texts of at most as many bytes of those that keys are made of, and of some others.
func shortTexts(most int) []string {
	all := []string{""}
	for from := 0; len(all[from]) < most; from++ {
		for _, b := range []byte{0, 1, 2, 3, 4, 5, 254, 255} {
			all = append(all, all[from]+string([]byte{b}))
		}
	}
	return all
}

// What Decode takes is told by Encode: a text is a key just if it is the key of what is read from it.
func TestY2DecodeTakesKeysAlone(t *testing.T) {
	took := 0
	for _, s := range shortTexts(6) {
		l, e := key.Decode(s)
		if e == api.OK {
			took++
			if u, _ := key.Encode(l...); u != s {
				t.Fatalf("Decode(%x) = %#v, whose key is %x", s, l, u)
			}
		} else if len(l) != 0 || e != api.ErrKey {
			t.Fatalf("Decode(%x) = %#v, %d", s, l, e)
		}
	}
	if want := countKeys(6); took != want {
		t.Errorf("%d texts were taken for keys, and there are %d", took, want)
	}
}

// countKeys counts the keys among shortTexts: how many values of just so many bytes there are (no number has less than nine) tells it.
func countKeys(most int) int {
	values := make([]int, most+1)
	values[1], values[2] = 1, 2
	texts := make([]int, most+1)
	texts[0] = 1
	for n := range texts {
		if n >= 1 {
			texts[n] += 7 * texts[n-1]
		}
		if n >= 2 {
			texts[n] += texts[n-2]
		}
		if n+3 <= most {
			values[n+3] = texts[n]
		}
	}
	lists := make([]int, most+1)
	lists[0] = 1
	all := 0
	for n := range lists {
		for size := 1; size <= n; size++ {
			lists[n] += values[size] * lists[n-size]
		}
		all += lists[n]
	}
	return all
}

func TestY3Order(t *testing.T) {
	rising := [][]api.Value{
		nil,
		{{Kind: math.MinInt}}, {{Kind: -1}},
		{null}, {null, null}, {null, null, null}, {null, num(-1)}, {null, text("")},
		{num(-most - 1)}, {num(-most)}, {num(-1), text("z")}, {num(0)}, {num(1)}, {num(1), null}, {num(1), num(2)}, {num(1), num(2), no}, {num(1), num(3)}, {num(2)}, {num(2), null},
		{no}, {no, yes}, {yes}, {yes, no}, {{Kind: api.Bool, Int: 2}},
		{text("")}, {text(""), yes}, {text(""), text("a")}, {text("\x00")}, {text("\x00"), null}, {text("a")}, {text("a"), text("z")}, {text("aa"), text("a")}, {text("b")}, {text("\xff")},
		slices.Repeat(list(text("\xff\xff")), 8), slices.Repeat(list(text("\xff\xff")), 9), slices.Repeat(list(text("\xff\xff")), 300),
		{{Kind: 4}}, {{Kind: 4}, null}, {{Kind: math.MaxInt}},
	}
	for i, a := range rising {
		for k, b := range rising {
			want := value.Order(num(i), num(k))
			if n := key.Order(a, b); n != want {
				t.Errorf("Order(%#v, %#v) = %d, not %d", a, b, n, want)
			}
		}
	}
}

func TestY3OrderOfNone(t *testing.T) {
	if n := key.Order(nil, list()); n != 0 {
		t.Errorf("Order(nil, none) = %d", n)
	}
	if n := key.Order(list(), nil); n != 0 {
		t.Errorf("Order(none, nil) = %d", n)
	}
	if n := key.Order(nil, list(null)); n != -1 {
		t.Errorf("Order(nil, NULL) = %d", n)
	}
}

func TestY4Next(t *testing.T) {
	for _, c := range []struct{ digits, next string }{
		{"0461", "0462"}, {"04ffff", "05"}, {"00", "01"}, {"0000", "0001"}, {"fe", "ff"}, {"feff", "ff"}, {"fffe", "ffff"}, {"fffeff", "ffff"},
		{"00ff", "01"}, {"ff00", "ff01"}, {"ff00ff", "ff01"}, {"04ff61ff", "04ff62"}, {"7f", "80"}, {"c3a9", "c3aa"}, {"c3bf", "c3c0"},
		{"61" + strings.Repeat("ff", 5000), "62"},
	} {
		if s, ok := key.Next(bytesOf(t, c.digits)); s != bytesOf(t, c.next) || !ok {
			t.Errorf("Next(%s) = %x, %t", c.digits, s, ok)
		}
	}
	for _, s := range []string{"", "\xff", "\xff\xff", strings.Repeat("\xff", 5000)} {
		if u, ok := key.Next(s); u != "" || ok {
			t.Errorf("Next(%x) = %x, %t", s, u, ok)
		}
	}
}

func TestR5ArgumentsStay(t *testing.T) {
	room := append(rightValues()[:8], rightValues()...)
	was := slices.Clone(room)
	key.Encode(room[:8]...)
	key.Encode(room[:3]...)
	key.Encode(room...)
	key.Order(room[:4], room[2:9])
	if !slices.Equal(room, was) {
		t.Error("a list that was handed in has changed")
	}
}

func TestR5AnswersAreNew(t *testing.T) {
	s := "\x01\x04a\x00\x00"
	first, _ := key.Decode(s)
	first[0], first[1] = yes, no
	first = append(first, yes)
	if again, e := key.Decode(s); !slices.Equal(again, list(null, text("a"))) || e != api.OK {
		t.Errorf("Decode told %#v, %d behind a change of what it told before", again, e)
	}
}
