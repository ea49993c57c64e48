package row_test

import (
	"slices"
	"strings"
	"testing"

	"unison/api"
	"unison/row"
)

// rightValues has every kind, the edges of each, and numbers on both sides of each edge at which a digit more is needed.
func rightValues() []api.Value {
	all := []api.Value{null, no, yes, num(0), num(1), num(-1), num(1 << 31), num(-1 << 31)}
	for digits := 1; digits <= 8; digits++ {
		half := 1 << (7*digits - 1)
		all = append(all, num(half-1), num(half), num(half+1), num(1-half), num(-half), num(-half-1))
	}
	all = append(all, num(most-1), num(most), num(1-most), num(-most))
	for _, s := range []string{"", "a", "ab", "b", "\x00", "\x01", "\x02\x00", "\x7f", "\x80", "\x80\x01", "\xff", "é", "\x01a"} {
		all = append(all, text(s))
	}
	for _, s := range []string{"a", "\x00", "\xff"} {
		all = append(all, text(strings.Repeat(s, 63)), text(strings.Repeat(s, 64)))
	}
	return all
}

// someLists has lists of none, of one, of two, and longer ones that differ at one place; no two are the same.
func someLists() [][]api.Value {
	all := [][]api.Value{nil}
	for _, a := range rightValues() {
		all = append(all, list(a))
		for _, b := range rightValues() {
			all = append(all, list(a, b))
		}
	}
	for n := 3; n <= api.MaxColumns; n++ {
		all = append(all, slices.Repeat(list(text("\x00")), n))
		for at := range n {
			for _, v := range rightValues() {
				l := slices.Repeat(list(text("\x00")), n)
				l[at] = v
				if v != text("\x00") {
					all = append(all, l)
				}
			}
		}
	}
	return all
}

func mustEncode(t *testing.T, l ...api.Value) string {
	t.Helper()
	s, e := row.Encode(l...)
	if e != api.OK {
		t.Fatalf("Encode(%#v): %d", l, e)
	}
	return s
}

func TestW4DecodeOfEncode(t *testing.T) {
	for _, l := range someLists() {
		s := mustEncode(t, l...)
		if back, e := row.Decode(s); !slices.Equal(back, l) || e != api.OK {
			t.Errorf("Decode of the bytes %x of %#v = %#v, %d", s, l, back, e)
		}
		if n, e := row.Size(l...); n != len(s) || e != api.OK {
			t.Errorf("Size(%#v) = %d, %d, but its bytes are %x", l, n, e, s)
		}
	}
}

// A text stands ahead of those that it begins, and nothing else stands between: if one begins another, it begins the next one too.
func TestW4BytesBeginNoOthers(t *testing.T) {
	var all []string
	for _, l := range someLists() {
		all = append(all, mustEncode(t, l...))
	}
	slices.Sort(all)
	for i := 1; i < len(all); i++ {
		if strings.HasPrefix(all[i], all[i-1]) {
			t.Errorf("%x begins %x", all[i-1], all[i])
		}
	}
}

// soundDecode tells whether a text is taken for a row's bytes; what is taken must be just what Encode tells of what is read.
func soundDecode(t *testing.T, s string) bool {
	l, e := row.Decode(s)
	if e != api.OK {
		if len(l) != 0 || e != api.ErrRow {
			t.Fatalf("Decode(%x) = %#v, %d", s, l, e)
		}
		return false
	}
	if again := mustEncode(t, l...); again != s {
		t.Fatalf("Decode(%x) = %#v, whose bytes are %x", s, l, again)
	}
	return true
}

// Of all texts of at most three bytes just these are rows': the one of no value; 1 to 4 NULLs; 1 to 4 values, all but one of them NULL, that one being a number of one digit, a BOOL or the empty text; 5 to 8 NULLs.
func TestW2DecodeOfAllShortTexts(t *testing.T) {
	took := 0
	for a := range 256 {
		for b := range 256 {
			for c := range 256 {
				if soundDecode(t, string([]byte{byte(a), byte(b), byte(c)})) {
					took++
				}
			}
			if soundDecode(t, string([]byte{byte(a), byte(b)})) {
				took++
			}
		}
		if soundDecode(t, string([]byte{byte(a)})) {
			took++
		}
	}
	if want := 1 + 4 + (1+2+3+4)*(128+2+1) + 4; took != want {
		t.Errorf("%d texts were taken for rows, and there are %d", took, want)
	}
}

// Of the texts 1, 1 and digits just those are rows' that have no nought as the last of several digits.
func TestW2DecodeOfAllShortNumbers(t *testing.T) {
	took := 0
	for a := range 256 {
		for b := range 256 {
			for _, c := range []byte{0, 1, 2, 127, 128, 129, 255} {
				if soundDecode(t, "\x01\x01"+string([]byte{byte(a), byte(b), c})) {
					took++
				}
			}
			if soundDecode(t, "\x01\x01"+string([]byte{byte(a), byte(b)})) {
				took++
			}
		}
	}
	if want := 128*127 + 128*128*3; took != want {
		t.Errorf("%d texts were taken for numbers' rows, and there are %d", took, want)
	}
}

func FuzzW4(f *testing.F) {
	f.Add("")
	for _, digits := range noRows() {
		f.Add(bytesOf(f, digits))
	}
	for _, c := range written() {
		f.Add(bytesOf(f, c.digits))
	}
	f.Fuzz(func(t *testing.T, s string) {
		if !soundDecode(t, s) {
			return
		}
		for n := range len(s) {
			if soundDecode(t, s[:n]) {
				t.Errorf("%x begins %x, and both are rows'", s[:n], s)
			}
		}
	})
}
