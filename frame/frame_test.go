package frame_test

import (
	"hash/crc32"
	"math"
	"slices"
	"strings"
	"testing"

	"unison/api"
	"unison/frame"
)

// mixed are so many bytes, of all kinds, none of them like those next to it.
func mixed(count int) string {
	b := make([]byte, count)
	for i := range b {
		b[i] = byte(i*i/3 + i*89 + 7)
	}
	return string(b)
}

// someData are data that a frame may have, the shortest and the longest too.
func someData() []string {
	all := []string{
		"", "a", "bc", "defg", "123456789", "\x00", "\x00\x00", "\xff", "\xff\xff\xff\xff", "\x01\x00", "é",
		"\x00\x00\xff\x12\xd9\x41", strings.Repeat("\x00", 255), strings.Repeat("\xff", 256), strings.Repeat("\x00", 257),
		strings.Repeat("\x00", 4096), strings.Repeat("\xff", 4096), strings.Repeat("a", 4095),
	}
	for _, count := range []int{3, 7, 254, 255, 256, 257, 511, 512, 513, 4095, 4096} {
		all = append(all, mixed(count))
	}
	return all
}

// laid lays a frame down by the chapter's words, whatever its count, its sum and its data are.
func laid(count int, sum uint32, data string) string {
	return string([]byte{byte(count), byte(count >> 8), byte(sum), byte(sum >> 8), byte(sum >> 16), byte(sum >> 24)}) + data
}

// summed lays a frame down with the sum that belongs to its count and data, which may be too many.
func summed(count int, data string) string {
	return laid(count, crc32.ChecksumIEEE([]byte(laid(count, 0, "")[:2]+data)), data)
}

// framed is the frame of data of at most 4096 bytes.
func framed(data string) string { return summed(len(data), data) }

func TestF1Sum(t *testing.T) {
	for _, c := range []struct {
		data string
		sum  uint32
	}{
		{"", 0}, {"123456789", 3421780262}, {"\x00\x00", 1104745215},
		{"\x00", 0xd202ef8d}, {"\xff", 0xff000000}, {"a", 0xe8b7be43}, {"abc", 0x352441c2},
		{"\xff\xff\xff\xff", math.MaxUint32}, {"\x00\x00\x00\x00", 0x2144df1c},
		{"The quick brown fox jumps over the lazy dog", 0x414fa339},
		{strings.Repeat("\x00", 32), 0x190a55ad}, {strings.Repeat("\xff", 32), 0xff6cab0b},
	} {
		if sum := frame.Sum(c.data); sum != c.sum {
			t.Errorf("Sum(%q) = %d, not %d", c.data, sum, c.sum)
		}
	}
}

// sumByWords goes by the chapter's words, bit by bit.
func sumByWords(s string) uint32 {
	sum := uint32(1<<32 - 1)
	for _, c := range []byte(s) {
		sum ^= uint32(c)
		for range 8 {
			fell := sum%2 == 1
			sum >>= 1
			if fell {
				sum ^= 3988292384
			}
		}
	}
	return math.MaxUint32 - sum
}

func TestF1SumOfAll(t *testing.T) {
	texts := append(someData(), mixed(4097), mixed(65536), mixed(200003), strings.Repeat("\x00", 100000))
	for a := range 256 {
		texts = append(texts, string([]byte{byte(a)}))
		for b := range 256 {
			texts = append(texts, string([]byte{byte(a), byte(b)}))
		}
	}
	for _, s := range texts {
		if sum := frame.Sum(s); sum != sumByWords(s) || sum != crc32.ChecksumIEEE([]byte(s)) {
			t.Fatalf("the sum of %d bytes, %.40q: %d", len(s), s, sum)
		}
	}
}

func TestF2Wrap(t *testing.T) {
	for _, c := range []struct{ data, frame string }{
		{"", "\x00\x00\xff\x12\xd9\x41"},
		{"a", "\x01\x00\xeb\xe2\x36\xc4\x61"},
		{"bc", "\x02\x00\x50\x2e\x3d\x08\x62\x63"},
		{"defg", "\x04\x00\xf0\xb2\x7a\x30\x64\x65\x66\x67"},
		{"\x00", "\x01\x00\x25\xb3\x83\xfe\x00"},
		{"\xff", "\x01\x00\xa8\x5c\x81\xd3\xff"},
	} {
		if s, e := frame.Wrap(c.data); s != c.frame || e != api.OK {
			t.Errorf("Wrap(%q) = %x, %d, not %x", c.data, s, e, c.frame)
		}
	}
	for _, data := range someData() {
		if s, e := frame.Wrap(data); s != framed(data) || e != api.OK {
			t.Errorf("Wrap of %d bytes, %.40q: %d bytes, %.40x, %d", len(data), data, len(s), s, e)
		}
	}
}

func TestF2WrapOfEachLength(t *testing.T) {
	long := mixed(api.MaxFrame)
	for count := range api.MaxFrame + 1 {
		data := long[:count]
		if s, e := frame.Wrap(data); s != framed(data) || len(s) != 6+count || e != api.OK {
			t.Fatalf("Wrap of %d bytes: %d bytes, %.40x, %d", count, len(s), s, e)
		}
	}
}

// tooLong are how many bytes no frame has; the two bytes of a count would tell some of them as others.
func tooLong() []int {
	return []int{4097, 4098, 8192, 65535, 65536, 65537, 65536 + 4096, 1 << 20}
}

func TestF2WrapLong(t *testing.T) {
	for _, count := range tooLong() {
		if s, e := frame.Wrap(mixed(count)); s != "" || e != api.ErrLong {
			t.Errorf("Wrap of %d bytes: %d bytes, %d", count, len(s), e)
		}
	}
}

// mustRead holds an answer of Read against what is asked for.
func mustRead(t *testing.T, s string, at int, data string, next int, e api.Errno) {
	t.Helper()
	if d, n, f := frame.Read(s, at); d != data || n != next || f != e {
		t.Errorf("Read(%.60x of %d bytes, %d) = %.40q of %d, %d, %d, not %.40q of %d, %d, %d", s, len(s), at, d, len(d), n, f, data, len(data), next, e)
	}
}

func TestF3Read(t *testing.T) {
	mustRead(t, "\x00\x00\xff\x12\xd9\x41", 0, "", 6, api.OK)
	mustRead(t, "\x02\x00\x50\x2e\x3d\x08\x62\x63", 0, "bc", 8, api.OK)
	for _, data := range someData() {
		s := framed(data)
		mustRead(t, s, 0, data, len(s), api.OK)
		// What stands ahead of the place, and behind the frame, is not asked.
		mustRead(t, "xyz"+s, 3, data, 3+len(s), api.OK)
		mustRead(t, s+"xyz", 0, data, len(s), api.OK)
		mustRead(t, s+s, len(s), data, 2*len(s), api.OK)
		mustRead(t, mixed(300)+s+mixed(300), 300, data, 300+len(s), api.OK)
	}
}

func TestF3ReadWithin(t *testing.T) {
	inner := framed("abc")
	s := framed("x" + inner + "y")
	mustRead(t, s, 0, "x"+inner+"y", len(s), api.OK)
	mustRead(t, s, 7, "abc", 7+len(inner), api.OK)
}

func TestF3ReadOutside(t *testing.T) {
	for _, s := range []string{"", "x", framed(""), framed("abc"), framed("a") + framed("b"), mixed(5000)} {
		for _, at := range []int{-1, -2, -len(s) - 1, math.MinInt, len(s) + 1, len(s) + 2, 2*len(s) + 1, math.MaxInt, math.MaxInt - 5} {
			mustRead(t, s, at, "", 0, api.ErrArg)
		}
		mustRead(t, s, len(s), "", 0, api.ErrFrame)
	}
}

// noFrames are texts that begin with no frame.
func noFrames() []string {
	all := []string{
		// nothing, and less than what stands ahead of data
		"", "\x00", "\x00\x00", "\x00\x00\xff", "\x00\x00\xff\x12\xd9",
		// the sum of nothing is 0, but the count is summed as well
		laid(0, 0, ""), laid(1, crc32.ChecksumIEEE([]byte("a")), "a"),
		// the sum of the data ahead of the count
		laid(1, crc32.ChecksumIEEE([]byte("a\x01\x00")), "a"),
		// the highest byte first
		"\x00\x00\x41\xd9\x12\xff", "\x00\x01\xc4\x36\xe2\xeb\x61", "\x01\x00\xc4\x36\xe2\xeb\x61",
		// the bits are not turned
		laid(0, ^uint32(1104745215), ""),
		// no sum, and no count
		"\x01\x00a", "\xeb\xe2\x36\xc4a",
		// a count of other data
		summed(0, "a"), summed(1, ""), summed(2, "a"), summed(256, "a"), summed(3, "ab"), summed(4096, "abc"), summed(4096, mixed(4095)),
		laid(0, crc32.ChecksumIEEE([]byte("\x01\x00a")), "a"),
		// a frame, but not from the beginning on
		"x" + framed("a"), framed("a")[1:], framed("a")[6:],
		strings.Repeat("\x00", 6), strings.Repeat("\x00", 5000), strings.Repeat("\xff", 70000), mixed(70000),
	}
	// right in all, but with more data than a frame may have
	for _, count := range tooLong() {
		all = append(all, summed(count, mixed(count)))
	}
	return all
}

func TestF3ReadNoFrame(t *testing.T) {
	for _, s := range noFrames() {
		mustRead(t, s, 0, "", 0, api.ErrFrame)
		mustRead(t, "xyz"+s, 3, "", 0, api.ErrFrame)
	}
}

// mustTell holds an answer of All against what is asked for.
func mustTell(t *testing.T, s string, want []string, end int) {
	t.Helper()
	if l, at := frame.All(s); !slices.Equal(l, want) || at != end {
		t.Errorf("All(%.60x of %d bytes): %d data, %.60q, %d, not %d, %.60q, %d", s, len(s), len(l), l, at, len(want), want, end)
	}
}

func TestF4All(t *testing.T) {
	mustTell(t, "", nil, 0)
	mustTell(t, framed("a")+framed("bc")+framed("defg")[:9], []string{"a", "bc"}, 15)
	mustTell(t, framed("a")+framed("bc")+framed("defg"), []string{"a", "bc", "defg"}, 25)
	mustTell(t, framed("defg")+framed("")+framed("")+framed("a"), []string{"defg", "", "", "a"}, 29)
	mustTell(t, framed("a")+framed("a"), []string{"a", "a"}, 14)
	mustTell(t, framed(framed("a")), []string{framed("a")}, 13)
	mustTell(t, strings.Repeat(framed(""), 3000), make([]string, 3000), 18000)
	s := ""
	for _, data := range someData() {
		s += framed(data)
	}
	mustTell(t, s, someData(), len(s))
	mustTell(t, s+s, append(someData(), someData()...), 2*len(s))
}

// What stands behind the first place at which there is no frame is not told, whole or not.
func TestF4AllUpToNone(t *testing.T) {
	a, b := framed("a"), framed("bc")
	for _, s := range noFrames() {
		mustTell(t, s, nil, 0)
		mustTell(t, a+b+s, []string{"a", "bc"}, 15)
	}
	for _, gap := range []string{"x", "\x00", "\x00\x00", "\xff\xff", laid(0, 0, ""), laid(1, 0, "b"), b[:7], b[1:], framed("x")[:6] + "y", summed(4097, mixed(4097))} {
		mustTell(t, gap+a, nil, 0)
		mustTell(t, a+gap+b, []string{"a"}, 7)
		mustTell(t, a+b+gap+a+b, []string{"a", "bc"}, 15)
	}
}
