package key_test

import (
	"cmp"
	"slices"
	"strings"
	"testing"

	"unison/api"
	"unison/key"
	"unison/value"
)

// someLists has lists of none, of one, of two, and longer ones whose first places are the same.
func someLists() [][]api.Value {
	all := [][]api.Value{nil}
	for _, a := range rightValues() {
		all = append(all, list(a))
		for _, b := range rightValues() {
			all = append(all, list(a, b))
		}
	}
	for n := 3; n <= api.MaxParts; n++ {
		for _, v := range rightValues() {
			l := slices.Repeat(list(text("\x00")), n)
			l[n-1] = v
			all = append(all, l)
		}
	}
	return all
}

func mustEncode(t *testing.T, l ...api.Value) string {
	t.Helper()
	s, e := key.Encode(l...)
	if e != api.OK {
		t.Fatalf("Encode(%#v): %d", l, e)
	}
	return s
}

func TestY5DecodeOfEncode(t *testing.T) {
	for _, l := range someLists() {
		if back, e := key.Decode(mustEncode(t, l...)); !slices.Equal(back, l) || e != api.OK {
			t.Errorf("Decode of the key of %#v = %#v, %d", l, back, e)
		}
	}
}

func TestY5KeysStandAsOrderSays(t *testing.T) {
	lists := someLists()
	keys := make([]string, len(lists))
	for i, l := range lists {
		keys[i] = mustEncode(t, l...)
	}
	for i, a := range lists {
		for k, b := range lists {
			want := slices.CompareFunc(a, b, value.Order)
			if n := key.Order(a, b); n != want {
				t.Fatalf("Order(%#v, %#v) = %d", a, b, n)
			}
			if cmp.Compare(keys[i], keys[k]) != want {
				t.Fatalf("%#v, %#v stand as %d, their keys %x, %x do not", a, b, want, keys[i], keys[k])
			}
		}
	}
}

func TestY5KeyOfTheFirstFew(t *testing.T) {
	for _, l := range someLists() {
		s := mustEncode(t, l...)
		for n := range len(l) + 1 {
			if few := mustEncode(t, l[:n]...); !strings.HasPrefix(s, few) {
				t.Errorf("the key %x of the first %d does not begin %x", few, n, s)
			}
		}
		if len(l) == 0 {
			continue
		}
		for _, v := range rightValues() {
			other := append(slices.Clone(l[:len(l)-1]), v)
			if few := mustEncode(t, other...); v != l[len(l)-1] && strings.HasPrefix(s, few) {
				t.Errorf("the key %x of %#v begins %x, that of %#v", few, other, s, l)
			}
		}
	}
}

func TestY5NextBoundsABeginning(t *testing.T) {
	texts := shortTexts(3)
	for _, s := range texts {
		next, ok := key.Next(s)
		if ok == (strings.Count(s, "\xff") == len(s)) {
			t.Errorf("Next(%x) = %x, %t", s, next, ok)
		}
		for _, u := range texts {
			if within := s <= u && (!ok || u < next); within != strings.HasPrefix(u, s) {
				t.Fatalf("%x, of which Next is %x, %t: %x", s, next, ok, u)
			}
		}
	}
}

// Next is the least such text: no text behind all that begin with s is less than it.
func TestY4NextIsTheLeast(t *testing.T) {
	texts := shortTexts(3)
	for _, s := range texts {
		next, ok := key.Next(s)
		for _, u := range texts {
			behind := u > s && !strings.HasPrefix(u, s)
			if behind && (!ok || u < next) {
				t.Fatalf("Next(%x) = %x, %t, but %x is less, and behind all", s, next, ok, u)
			}
		}
	}
}

func FuzzY5(f *testing.F) {
	for _, digits := range noKeys() {
		f.Add(bytesOf(f, digits), "a")
	}
	for _, l := range someLists()[:60] {
		s, _ := key.Encode(l...)
		f.Add(s, s+"\xff")
	}
	f.Fuzz(func(t *testing.T, s, u string) {
		a, e := key.Decode(s)
		b, g := key.Decode(u)
		if e == api.OK {
			if back := mustEncode(t, a...); back != s {
				t.Errorf("Decode(%x) = %#v, whose key is %x", s, a, back)
			}
		} else if len(a) != 0 || e != api.ErrKey {
			t.Errorf("Decode(%x) = %#v, %d", s, a, e)
		}
		if e == api.OK && g == api.OK && key.Order(a, b) != cmp.Compare(s, u) {
			t.Errorf("Order(%#v, %#v) = %d, their keys are %x, %x", a, b, key.Order(a, b), s, u)
		}
		next, ok := key.Next(s)
		if within := s <= u && (!ok || u < next); within != strings.HasPrefix(u, s) {
			t.Errorf("%x, of which Next is %x, %t: %x", s, next, ok, u)
		}
	})
}
