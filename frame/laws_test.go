package frame_test

import (
	"slices"
	"strings"
	"testing"
	"unsafe"

	"unison/api"
	"unison/frame"
)

func mustWrap(t *testing.T, data string) string {
	t.Helper()
	s, e := frame.Wrap(data)
	if e != api.OK {
		t.Fatalf("Wrap of %d bytes: %d", len(data), e)
	}
	return s
}

func TestF5ReadOfWrap(t *testing.T) {
	for _, data := range someData() {
		s := mustWrap(t, data)
		mustRead(t, s, 0, data, len(s), api.OK)
		mustTell(t, s, []string{data}, len(s))
	}
	long := mixed(api.MaxFrame)
	for count := range len(long) + 1 {
		s := mustWrap(t, long[:count])
		mustRead(t, s, 0, long[:count], len(s), api.OK)
	}
}

// A piece of a frame that is not all of it is no frame, wherever it is cut, and behind whole ones it is not told.
func TestF5AllOfAPiece(t *testing.T) {
	whole := mustWrap(t, "a") + mustWrap(t, "") + mustWrap(t, "bc")
	for _, data := range someData() {
		s := mustWrap(t, data)
		for n := range len(s) {
			if n > 300 && n < len(s)-300 {
				continue
			}
			mustRead(t, s[:n], 0, "", 0, api.ErrFrame)
			mustTell(t, s[:n], nil, 0)
			mustTell(t, whole+s[:n], []string{"a", "", "bc"}, len(whole))
		}
	}
}

// Of a text of frames that is cut at each place, those are told that end ahead of it.
func TestF5AllOfEachBeginning(t *testing.T) {
	s := ""
	var ends []int
	list := []string{"", "a", "bc", "", "defg", mixed(40), "\x00", "123456789"}
	for _, data := range list {
		s += mustWrap(t, data)
		ends = append(ends, len(s))
	}
	for n := range len(s) + 1 {
		count, end := 0, 0
		for count < len(ends) && ends[count] <= n {
			end = ends[count]
			count++
		}
		mustTell(t, s[:n], list[:count], end)
	}
}

// changed is a text in which one byte is another one.
func changed(s string, at int, to byte) string {
	return s[:at] + string([]byte{to}) + s[at+1:]
}

func TestF5EachOtherByte(t *testing.T) {
	for _, data := range []string{"", "a", "bc", "defg", "\x00\x00\x00", "\xff\xff", mixed(20)} {
		s := mustWrap(t, data)
		for at := 2; at < len(s); at++ {
			for c := range 256 {
				if byte(c) == s[at] {
					continue
				}
				other := changed(s, at, byte(c))
				mustRead(t, other, 0, "", 0, api.ErrFrame)
				mustTell(t, mustWrap(t, "a")+other+s, []string{"a"}, 7)
			}
		}
	}
}

func TestF5OneByteOfMany(t *testing.T) {
	for _, data := range someData() {
		s := mustWrap(t, data)
		for at := 2; at < len(s); at += 1 + len(s)/50 {
			for _, by := range []byte{1, 2, 16, 128, 255} {
				mustRead(t, changed(s, at, s[at]^by), 0, "", 0, api.ErrFrame)
			}
		}
		for _, by := range []byte{1, 128, 255} {
			mustRead(t, changed(s, len(s)-1, s[len(s)-1]^by), 0, "", 0, api.ErrFrame)
		}
	}
}

// readAll goes over frames by Read alone.
func readAll(s string) ([]string, int) {
	var l []string
	at := 0
	for {
		data, next, e := frame.Read(s, at)
		if e != api.OK || next <= at {
			return l, at
		}
		l = append(l, data)
		at = next
	}
}

// soundRead holds what Read answers at a place against the chapter's words: it is a frame just if Wrap of its data stands there.
func soundRead(t *testing.T, s string, at int) {
	data, next, e := frame.Read(s, at)
	switch {
	case at < 0 || at > len(s):
		if data != "" || next != 0 || e != api.ErrArg {
			t.Errorf("Read(%.60x, %d) = %.40q, %d, %d", s, at, data, next, e)
		}
	case e == api.OK:
		if next < at || next > len(s) || s[at:next] != mustWrap(t, data) {
			t.Errorf("Read(%.60x, %d) = %.40q, %d, %d", s, at, data, next, e)
		}
	default:
		if data != "" || next != 0 || e != api.ErrFrame {
			t.Errorf("Read(%.60x, %d) = %.40q, %d, %d", s, at, data, next, e)
		}
		if count := len(s) - at - 6; count >= 0 {
			said := int(s[at]) + 256*int(s[at+1])
			if said <= count && said <= api.MaxFrame && strings.HasPrefix(s[at:], mustWrap(t, s[at+6:at+6+said])) {
				t.Errorf("Read(%.60x, %d): there is a frame of %d bytes", s, at, said)
			}
		}
	}
}

func FuzzF3ToF5(f *testing.F) {
	for _, s := range noFrames() {
		f.Add(s, "", 0)
	}
	for i, data := range someData() {
		f.Add(framed(data), data, i-3)
		f.Add(framed("a")+framed(data), "xyz", 7)
	}
	f.Fuzz(func(t *testing.T, s, data string, at int) {
		soundRead(t, s, at)
		soundRead(t, s, 0)
		l, end := frame.All(s)
		if m, n := readAll(s); !slices.Equal(l, m) || end != n {
			t.Errorf("All(%x) = %q, %d; by Read: %q, %d", s, l, end, m, n)
		}
		if len(data) <= api.MaxFrame {
			w := mustWrap(t, data)
			mustRead(t, s+w+s, len(s), data, len(s)+len(w), api.OK)
		}
	})
}

// within tells whether a text's bytes lie in another one's memory.
func within(s, long string) bool {
	at, from := uintptr(unsafe.Pointer(unsafe.StringData(s))), uintptr(unsafe.Pointer(unsafe.StringData(long)))
	return len(s) > 0 && from <= at && at < from+uintptr(len(long))
}

func TestR5AnswersAreNew(t *testing.T) {
	s := framed("a") + framed("bc") + framed(mixed(500)) + framed("defg")
	for at := range len(s) {
		if data, _, e := frame.Read(s, at); e == api.OK && within(data, s) {
			t.Errorf("what Read tells at %d is a piece of its argument", at)
		}
	}
	l, _ := frame.All(s)
	for i, data := range l {
		if within(data, s) {
			t.Errorf("the data %d of All are a piece of its argument", i)
		}
		for j, other := range l {
			if i != j && within(data, other) {
				t.Errorf("the data %d and %d of All are one memory", i, j)
			}
		}
	}
	l[0], l[1] = "x", "y"
	if again, _ := frame.All(s); again[0] != "a" || again[1] != "bc" {
		t.Errorf("All told %.40q behind a change of what it told before", again)
	}
	if data := mixed(9); within(data, mustWrap(t, data)) || within(mustWrap(t, data), data) {
		t.Error("Wrap tells memory of its argument")
	}
}

func TestR6TheSameAgain(t *testing.T) {
	for _, data := range someData() {
		s := mustWrap(t, data)
		frame.All(framed("x") + s[:len(s)-1])
		if again := mustWrap(t, data); again != s {
			t.Errorf("Wrap(%.40q) told %.40x, then %.40x", data, s, again)
		}
	}
}

// The bound of the whole is far above this; what is told must not take more than some steps a byte.
func TestR1LongTextsEnd(t *testing.T) {
	one := framed(mixed(api.MaxFrame))
	s := strings.Repeat(one, 500)
	if l, at := frame.All(s + one[1:]); len(l) != 500 || at != len(s) {
		t.Errorf("%d data, up to %d of %d", len(l), at, len(s))
	}
	empty := strings.Repeat(framed(""), 200000)
	if l, at := frame.All(empty); len(l) != 200000 || at != len(empty) {
		t.Errorf("%d data, up to %d of %d", len(l), at, len(empty))
	}
}
