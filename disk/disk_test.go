package disk_test

import (
	"math"
	"slices"
	"strconv"
	"strings"
	"testing"

	"unison/api"
	"unison/disk"
)

func file(name, data string, safe int) api.File { return api.File{Name: name, Data: data, Safe: safe} }

func files(l ...api.File) []api.File { return l }

func mustNew(t testing.TB, size int, l ...api.File) *disk.Disk {
	t.Helper()
	d, e := disk.New(size, l...)
	if d == nil || e != api.OK {
		t.Fatalf("New(%d, %v) = %v, %d", size, l, d, e)
	}
	return d
}

// mustBe holds an answer against the one that is asked for.
func mustBe(t testing.TB, what string, got, want api.Errno) {
	t.Helper()
	if got != want {
		t.Errorf("%q: %d; want %d", what, got, want)
	}
}

// mustHave holds a disk's files against those that are asked for.
func mustHave(t testing.TB, d *disk.Disk, want ...api.File) {
	t.Helper()
	if got := d.Files(); !slices.Equal(got, want) {
		t.Errorf("Files() = %v; want %v", got, want)
	}
}

// manyFiles are so many of one byte each.
func manyFiles(n int) []api.File {
	var l []api.File
	for i := range n {
		l = append(l, file("f"+strconv.Itoa(100+i), "x", 0))
	}
	return l
}

// someNames has names of each byte that may stand in one, the shortest and the longest.
func someNames() []string {
	l := []string{"-", ".", "..", "-.-", "a.b", "0", "007", "log-1.tmp", "abcdefghijklmnop", "----------------", "................"}
	for c := 'a'; c <= 'z'; c++ {
		l = append(l, string(c), "x"+string(c), string(c)+"x")
	}
	for c := '0'; c <= '9'; c++ {
		l = append(l, "y"+string(c), string(c)+"y")
	}
	return l
}

// noNames has texts that are none: of no byte, of more than 16, and of each wrong byte at the beginning, inside, and at the end.
func noNames() []string {
	l := []string{"", "abcdefghijklmnopq", strings.Repeat("a", 17), strings.Repeat("a", 256), strings.Repeat("é", 8), "a b", "A", "aB", "a/b", "a_b", "é", "a\n"}
	for c := range 256 {
		b := byte(c)
		if !strings.Contains("abcdefghijklmnopqrstuvwxyz0123456789-.", string([]byte{b})) {
			l = append(l, string([]byte{b}), string([]byte{b, 'a'}), string([]byte{'a', b, 'a'}), string([]byte{'a', b}))
		}
	}
	return l
}

func TestD1New(t *testing.T) {
	for _, c := range []struct {
		size int
		l    []api.File
	}{
		{0, nil},
		{0, files()},
		{1, nil},
		{api.MaxDisk, nil},
		{0, files(file("a", "", 0))},
		{3, files(file("a", "xyz", 0))},
		{3, files(file("a", "xyz", 3))},
		{9, files(file("b", "xyz", 1), file("a", "12", 2), file("c", "", 0))},
		{64, manyFiles(64)},
		{api.MaxDisk, manyFiles(64)},
		{api.MaxDisk, files(file("a", strings.Repeat("x", api.MaxDisk), api.MaxDisk))},
		{api.MaxDisk, files(file("a", strings.Repeat("x", api.MaxDisk-1), 7), file("b", "y", 0))},
	} {
		d := mustNew(t, c.size, c.l...)
		want := slices.Clone(c.l)
		slices.SortFunc(want, func(a, b api.File) int { return strings.Compare(a.Name, b.Name) })
		if !slices.Equal(d.Files(), want) {
			t.Errorf("New(%d, %d files) has other files", c.size, len(c.l))
		}
		free := c.size
		for _, f := range c.l {
			free -= len(f.Data)
		}
		if d.Free() != free || d.Steps() != 0 || d.Down() {
			t.Errorf("New(%d, %d files): Free %d, Steps %d, Down %t", c.size, len(c.l), d.Free(), d.Steps(), d.Down())
		}
	}
}

func TestD1NewIsNotArmed(t *testing.T) {
	d := mustNew(t, 1000)
	for range 1000 {
		mustBe(t, "Append", d.Append("a", "x"), api.OK)
	}
	if d.Steps() != 1000 || d.Down() {
		t.Errorf("Steps %d, Down %t", d.Steps(), d.Down())
	}
}

func TestD1NewWrong(t *testing.T) {
	long := strings.Repeat("x", api.MaxDisk+1)
	twice := append(manyFiles(64), file("f163", "", 0))
	for i, c := range []struct {
		size int
		l    []api.File
		want api.Errno
	}{
		{-1, nil, api.ErrArg},
		{math.MinInt, nil, api.ErrArg},
		{api.MaxDisk + 1, nil, api.ErrArg},
		{math.MaxInt, nil, api.ErrArg},
		{9, files(file("a", "", 1)), api.ErrArg},
		{9, files(file("a", "xyz", 4)), api.ErrArg},
		{9, files(file("a", "xyz", -1)), api.ErrArg},
		{9, files(file("a", "xyz", math.MinInt)), api.ErrArg},
		{9, files(file("a", "xyz", math.MaxInt)), api.ErrArg},
		{9, files(file("a", "xyz", 1), file("b", "", 0), file("c", "1", 2)), api.ErrArg},
		{9, files(file("a", "", 0), file("a", "", 0)), api.ErrName},
		{9, files(file("a", "x", 0), file("b", "", 0), file("a", "y", 1)), api.ErrName},
		{9, files(file("a", "", 0), file("B", "", 0)), api.ErrName},
		{0, files(file("a", "x", 0)), api.ErrFull},
		{3, files(file("a", "xyz1", 4)), api.ErrFull},
		{3, files(file("a", "xy", 0), file("b", "12", 0)), api.ErrFull},
		{63, manyFiles(64), api.ErrFull},
		{api.MaxDisk, manyFiles(65), api.ErrFull},
		{api.MaxDisk, files(file("a", long, 0)), api.ErrFull},
		// Of several, the one that is named first.
		{-1, files(file("A", "x", 2)), api.ErrArg},
		{-1, files(file("A", "x", 0)), api.ErrArg},
		{-1, files(file("a", "x", 0)), api.ErrArg},
		{api.MaxDisk + 1, files(file("a", long, 0), file("a", "", 0)), api.ErrArg},
		{0, files(file("A", "", 0), file("b", "x", 2)), api.ErrArg},
		{0, append(manyFiles(70), file("b", "", -1)), api.ErrArg},
		{0, files(file("a", "x", 0), file("A", "", 0)), api.ErrName},
		{0, files(file("a", "x", 0), file("a", "x", 0)), api.ErrName},
		{api.MaxDisk, twice, api.ErrName},
		{api.MaxDisk, append(manyFiles(65), file("", "", 0)), api.ErrName},
	} {
		if d, e := disk.New(c.size, c.l...); d != nil || e != c.want {
			t.Errorf("%d: New(%d, %d files) = %v, %d; want %d", i, c.size, len(c.l), d, e, c.want)
		}
	}
}

func TestD1Names(t *testing.T) {
	for _, s := range someNames() {
		mustHave(t, mustNew(t, 9, file(s, "x", 1)), file(s, "x", 1))
	}
	for _, s := range noNames() {
		if d, e := disk.New(9, file(s, "x", 1)); d != nil || e != api.ErrName {
			t.Errorf("New with a file %q = %v, %d", s, d, e)
		}
	}
}

func TestD2FilesByRisingNames(t *testing.T) {
	var l, want []api.File
	names := []string{"-", "--", "-.", ".", "0", "1", "10", "2", "9a", "a", "a-", "a.", "a0", "aa", "ab", "b", "ba", "z", "zz"}
	for i, s := range names {
		want = append(want, file(s, strconv.Itoa(i), i%2))
	}
	l = slices.Clone(want)
	for range len(l) {
		l = append(l[1:], l[0])
		mustHave(t, mustNew(t, 99, l...), want...)
	}
	slices.Reverse(l)
	mustHave(t, mustNew(t, 99, l...), want...)
	d := mustNew(t, 99)
	for _, f := range l {
		mustBe(t, "Append", d.Append(f.Name, f.Data), api.OK)
	}
	for i, f := range d.Files() {
		if f.Name != names[i] {
			t.Errorf("file %d is %q, not %q", i, f.Name, names[i])
		}
	}
}

func TestD2FreeStepsDown(t *testing.T) {
	d := mustNew(t, 10, file("a", "12", 1))
	for _, c := range []struct {
		what        string
		do          func() api.Errno
		want        api.Errno
		free, steps int
		down        bool
	}{
		{"nothing", func() api.Errno { return api.OK }, api.OK, 8, 0, false},
		{"Append(a, xyz)", func() api.Errno { return d.Append("a", "xyz") }, api.OK, 5, 1, false},
		{"Sync(a)", func() api.Errno { return d.Sync("a") }, api.OK, 5, 2, false},
		{"Append(b, 12345)", func() api.Errno { return d.Append("b", "12345") }, api.OK, 0, 3, false},
		{"Append(b, x)", func() api.Errno { return d.Append("b", "x") }, api.ErrFull, 0, 3, false},
		{"Append(c, nothing)", func() api.Errno { return d.Append("c", "") }, api.OK, 0, 4, false},
		{"Rename(c, b)", func() api.Errno { return d.Rename("c", "b") }, api.OK, 5, 5, false},
		{"Rename(b, b)", func() api.Errno { return d.Rename("b", "b") }, api.OK, 5, 6, false},
		{"Remove(c)", func() api.Errno { return d.Remove("c") }, api.ErrNoFile, 5, 6, false},
		{"Remove(a)", func() api.Errno { return d.Remove("a") }, api.OK, 10, 7, false},
		{"Arm(1)", func() api.Errno { return d.Arm(1) }, api.OK, 10, 7, false},
		{"Append(b, 123)", func() api.Errno { return d.Append("b", "123") }, api.OK, 7, 8, false},
		{"Append(b, 4)", func() api.Errno { return d.Append("b", "4") }, api.ErrDown, 7, 8, true},
		{"Append(B, 4)", func() api.Errno { return d.Append("B", "4") }, api.ErrDown, 7, 8, true},
		{"Crash(2)", func() api.Errno { d.Crash(2); return api.OK }, api.OK, 8, 8, false},
		{"Append(b, 4)", func() api.Errno { return d.Append("b", "4") }, api.OK, 7, 9, false},
	} {
		mustBe(t, c.what, c.do(), c.want)
		if d.Free() != c.free || d.Steps() != c.steps || d.Down() != c.down {
			t.Errorf("%s: Free %d, Steps %d, Down %t", c.what, d.Free(), d.Steps(), d.Down())
		}
	}
	mustHave(t, d, file("b", "124", 2))
}

func TestD2FilesWhileDown(t *testing.T) {
	d := fallen(t, 10, file("b", "23", 1), file("a", "1", 1))
	mustHave(t, d, file("a", "1", 1), file("b", "23", 1))
	if d.Free() != 7 || d.Steps() != 0 || !d.Down() {
		t.Errorf("Free %d, Steps %d, Down %t", d.Free(), d.Steps(), d.Down())
	}
}

// fallen is a disk that has fallen at its first step.
func fallen(t testing.TB, size int, l ...api.File) *disk.Disk {
	t.Helper()
	d := mustNew(t, size, l...)
	mustBe(t, "Arm(0)", d.Arm(0), api.OK)
	mustBe(t, "the step at which it falls", d.Append("new", ""), api.ErrDown)
	return d
}

func TestD3Read(t *testing.T) {
	d := mustNew(t, 99, file("a", "12", 1), file("b", "", 0))
	mustBe(t, "Append", d.Append("a", "xyz"), api.OK)
	mustBe(t, "Append", d.Append("c", "\x00\xff"), api.OK)
	for _, f := range files(file("a", "12xyz", 0), file("b", "", 0), file("c", "\x00\xff", 0)) {
		if s, e := d.Read(f.Name); s != f.Data || e != api.OK {
			t.Errorf("Read(%q) = %q, %d", f.Name, s, e)
		}
	}
	for _, s := range []string{"d", "aa", "abcdefghijklmnop"} {
		if data, e := d.Read(s); data != "" || e != api.ErrNoFile {
			t.Errorf("Read(%q) = %q, %d", s, data, e)
		}
	}
	for _, s := range noNames() {
		if data, e := d.Read(s); data != "" || e != api.ErrName {
			t.Errorf("Read(%q) = %q, %d", s, data, e)
		}
	}
}

func TestD3ReadWhileDown(t *testing.T) {
	d := fallen(t, 9, file("a", "x", 1))
	for _, s := range []string{"a", "b", "", "A"} {
		if data, e := d.Read(s); data != "" || e != api.ErrDown {
			t.Errorf("Read(%q) = %q, %d", s, data, e)
		}
	}
}

func TestD3ReadIsNoStep(t *testing.T) {
	d := mustNew(t, 9, file("a", "x", 0))
	mustBe(t, "Arm", d.Arm(0), api.OK)
	for range 3 {
		if s, e := d.Read("a"); s != "x" || e != api.OK {
			t.Errorf("Read = %q, %d", s, e)
		}
	}
	if d.Steps() != 0 || d.Down() {
		t.Errorf("Steps %d, Down %t", d.Steps(), d.Down())
	}
}

func TestD4Append(t *testing.T) {
	d := mustNew(t, 12, file("a", "123", 2))
	mustBe(t, "Append behind a file", d.Append("a", "45"), api.OK)
	mustHave(t, d, file("a", "12345", 2))
	mustBe(t, "Append of nothing", d.Append("a", ""), api.OK)
	mustHave(t, d, file("a", "12345", 2))
	mustBe(t, "Append to a new file", d.Append("b", "x\x00\xff"), api.OK)
	mustBe(t, "Append of nothing to a new file", d.Append("c", ""), api.OK)
	mustHave(t, d, file("a", "12345", 2), file("b", "x\x00\xff", 0), file("c", "", 0))
	mustBe(t, "Append of more than is free", d.Append("b", "56789"), api.ErrFull)
	mustBe(t, "Append of more than is free, to a new file", d.Append("d", "56789"), api.ErrFull)
	mustHave(t, d, file("a", "12345", 2), file("b", "x\x00\xff", 0), file("c", "", 0))
	mustBe(t, "Append of all that is free", d.Append("c", "6789"), api.OK)
	mustBe(t, "Append to a full disk", d.Append("c", "x"), api.ErrFull)
	mustBe(t, "Append of nothing to a full disk", d.Append("d", ""), api.OK)
	mustHave(t, d, file("a", "12345", 2), file("b", "x\x00\xff", 0), file("c", "6789", 0), file("d", "", 0))
}

func TestD4AppendManyFiles(t *testing.T) {
	d := mustNew(t, 99, manyFiles(63)...)
	mustBe(t, "the 64th", d.Append("last", ""), api.OK)
	mustBe(t, "the 65th", d.Append("more", ""), api.ErrFull)
	mustBe(t, "the 65th, with bytes", d.Append("more", "x"), api.ErrFull)
	mustBe(t, "one of the 64", d.Append("last", "x"), api.OK)
	mustBe(t, "Remove", d.Remove("f100"), api.OK)
	mustBe(t, "the 64th again", d.Append("more", "x"), api.OK)
	if n := len(d.Files()); n != 64 {
		t.Errorf("there are %d files", n)
	}
}

func TestD4AppendToTheGreatestDisk(t *testing.T) {
	d := mustNew(t, api.MaxDisk)
	half := strings.Repeat("x", api.MaxDisk/2)
	mustBe(t, "too much", d.Append("a", half+half+"y"), api.ErrFull)
	mustBe(t, "half", d.Append("a", half), api.OK)
	mustBe(t, "half and one", d.Append("b", half+"y"), api.ErrFull)
	mustBe(t, "half", d.Append("a", half), api.OK)
	if s, e := d.Read("a"); s != half+half || e != api.OK || d.Free() != 0 {
		t.Errorf("Read = %d bytes, %d; Free %d", len(s), e, d.Free())
	}
}

func TestD4AppendNames(t *testing.T) {
	for _, s := range someNames() {
		d := mustNew(t, 9)
		mustBe(t, s, d.Append(s, "x"), api.OK)
		mustHave(t, d, file(s, "x", 0))
	}
	d := mustNew(t, 1, file("a", "x", 0))
	full := mustNew(t, 99, manyFiles(64)...)
	for _, s := range noNames() {
		mustBe(t, s, d.Append(s, ""), api.ErrName)
		mustBe(t, s+", with more bytes than are free", d.Append(s, "xy"), api.ErrName)
		mustBe(t, s+", as the 65th", full.Append(s, ""), api.ErrName)
	}
	mustHave(t, d, file("a", "x", 0))
}

func TestD5Sync(t *testing.T) {
	d := mustNew(t, 99, file("a", "123", 1), file("b", "45", 0), file("c", "", 0))
	mustBe(t, "Sync(a)", d.Sync("a"), api.OK)
	mustHave(t, d, file("a", "123", 3), file("b", "45", 0), file("c", "", 0))
	mustBe(t, "Sync(a) again", d.Sync("a"), api.OK)
	mustBe(t, "Sync(c)", d.Sync("c"), api.OK)
	mustBe(t, "Append(a)", d.Append("a", "x"), api.OK)
	mustHave(t, d, file("a", "123x", 3), file("b", "45", 0), file("c", "", 0))
	mustBe(t, "Sync(b)", d.Sync("b"), api.OK)
	mustHave(t, d, file("a", "123x", 3), file("b", "45", 2), file("c", "", 0))
	for _, s := range []string{"d", "aa"} {
		mustBe(t, s, d.Sync(s), api.ErrNoFile)
	}
	for _, s := range noNames() {
		mustBe(t, s, d.Sync(s), api.ErrName)
	}
	mustHave(t, d, file("a", "123x", 3), file("b", "45", 2), file("c", "", 0))
}

func TestD6Rename(t *testing.T) {
	d := mustNew(t, 99, file("a", "123", 1), file("b", "45", 2), file("c", "6", 0))
	mustBe(t, "to a new name", d.Rename("a", "z"), api.OK)
	mustHave(t, d, file("b", "45", 2), file("c", "6", 0), file("z", "123", 1))
	mustBe(t, "in the place of another one", d.Rename("z", "b"), api.OK)
	mustHave(t, d, file("b", "123", 1), file("c", "6", 0))
	mustBe(t, "to its own name", d.Rename("b", "b"), api.OK)
	mustHave(t, d, file("b", "123", 1), file("c", "6", 0))
	mustBe(t, "Append behind", d.Append("b", "x"), api.OK)
	mustBe(t, "Append of a new one to the old name", d.Append("z", "y"), api.OK)
	mustHave(t, d, file("b", "123x", 1), file("c", "6", 0), file("z", "y", 0))
	if d.Free() != 93 {
		t.Errorf("Free() = %d", d.Free())
	}
}

func TestD6RenameWrong(t *testing.T) {
	d := mustNew(t, 99, file("a", "123", 1), file("b", "45", 2))
	for _, s := range noNames() {
		mustBe(t, s+" to b", d.Rename(s, "b"), api.ErrName)
		mustBe(t, "a to "+s, d.Rename("a", s), api.ErrName)
		mustBe(t, "none to "+s, d.Rename("none", s), api.ErrName)
		mustBe(t, s+" to itself", d.Rename(s, s), api.ErrName)
	}
	for _, s := range []string{"a", "none", "other"} {
		mustBe(t, "none to "+s, d.Rename("none", s), api.ErrNoFile)
	}
	mustHave(t, d, file("a", "123", 1), file("b", "45", 2))
}

func TestD6RenameOfManyFiles(t *testing.T) {
	d := mustNew(t, 64, manyFiles(64)...)
	mustBe(t, "to a new name", d.Rename("f100", "a"), api.OK)
	if l := d.Files(); len(l) != 64 || l[0] != file("a", "x", 0) || l[1].Name != "f101" {
		t.Errorf("%d files, the first %v", len(l), l[0])
	}
}

func TestD6Remove(t *testing.T) {
	d := mustNew(t, 9, file("a", "123", 1), file("b", "45", 2))
	mustBe(t, "Remove(a)", d.Remove("a"), api.OK)
	mustHave(t, d, file("b", "45", 2))
	if d.Free() != 7 {
		t.Errorf("Free() = %d", d.Free())
	}
	mustBe(t, "Remove(a) again", d.Remove("a"), api.ErrNoFile)
	for _, s := range noNames() {
		mustBe(t, s, d.Remove(s), api.ErrName)
	}
	mustBe(t, "a new one of the old name", d.Append("a", "x"), api.OK)
	mustHave(t, d, file("a", "x", 0), file("b", "45", 2))
}

// Names are safe at once: a crash brings back no file, and takes none away.
func TestD6CrashChangesNoName(t *testing.T) {
	d := mustNew(t, 9, file("a", "1", 0), file("b", "2", 0), file("c", "3", 0))
	mustBe(t, "Rename", d.Rename("a", "z"), api.OK)
	mustBe(t, "Remove", d.Remove("b"), api.OK)
	mustBe(t, "Append", d.Append("new", ""), api.OK)
	d.Crash()
	mustHave(t, d, file("c", "", 0), file("new", "", 0), file("z", "", 0))
}

// steps are one of each kind, none of which has anything wrong with it on a disk of some files a.
func steps(d *disk.Disk) []func() api.Errno {
	return []func() api.Errno{
		func() api.Errno { return d.Append("a", "x") },
		func() api.Errno { return d.Append("a", "") },
		func() api.Errno { return d.Sync("a") },
		func() api.Errno { return d.Rename("a", "a") },
		func() api.Errno { return d.Rename("a", "b") },
		func() api.Errno { return d.Remove("a") },
	}
}

func TestD7ArmedStepsAreDone(t *testing.T) {
	for n := range 5 {
		for kind := range steps(nil) {
			d := mustNew(t, 99, file("a", "1", 0))
			mustBe(t, "Arm", d.Arm(n), api.OK)
			for range n {
				mustBe(t, "a step ahead of the fall", d.Append("a", "y"), api.OK)
			}
			before := d.Files()
			if d.Down() || d.Steps() != n {
				t.Errorf("armed with %d: Down %t, Steps %d", n, d.Down(), d.Steps())
			}
			mustBe(t, "the step at which it falls", steps(d)[kind](), api.ErrDown)
			mustHave(t, d, before...)
			if !d.Down() || d.Steps() != n {
				t.Errorf("fallen at %d: Down %t, Steps %d", n, d.Down(), d.Steps())
			}
			for _, step := range steps(d) {
				mustBe(t, "a step of a disk that is down", step(), api.ErrDown)
			}
			mustHave(t, d, before...)
		}
	}
}

func TestD7EachKindOfStepCounts(t *testing.T) {
	for kind := range steps(nil) {
		d := mustNew(t, 99, file("a", "1", 0), file("b", "2", 0))
		mustBe(t, "Arm", d.Arm(1), api.OK)
		mustBe(t, "a step", steps(d)[kind](), api.OK)
		if d.Down() || d.Steps() != 1 {
			t.Errorf("kind %d: Down %t, Steps %d", kind, d.Down(), d.Steps())
		}
		mustBe(t, "the next step", d.Append("b", ""), api.ErrDown)
	}
}

func TestD7Arm(t *testing.T) {
	d := mustNew(t, 99)
	for _, n := range []int{-2, -3, math.MinInt} {
		mustBe(t, "Arm("+strconv.Itoa(n)+")", d.Arm(n), api.ErrArg)
	}
	mustBe(t, "a step of a disk that is not armed", d.Append("a", "x"), api.OK)
	mustBe(t, "Arm(0)", d.Arm(0), api.OK)
	mustBe(t, "Arm(-2)", d.Arm(-2), api.ErrArg)
	mustBe(t, "Arm(1)", d.Arm(1), api.OK)
	mustBe(t, "a step", d.Append("a", "x"), api.OK)
	mustBe(t, "Arm(-1)", d.Arm(-1), api.OK)
	for range 9 {
		mustBe(t, "a step of a disk that is no longer armed", d.Append("a", "x"), api.OK)
	}
	mustBe(t, "Arm(the greatest)", d.Arm(math.MaxInt), api.OK)
	mustBe(t, "a step", d.Append("a", "x"), api.OK)
	mustBe(t, "Arm(0)", d.Arm(0), api.OK)
	mustBe(t, "the step at which it falls", d.Append("a", "x"), api.ErrDown)
	if d.Steps() != 12 {
		t.Errorf("Steps() = %d", d.Steps())
	}
}

func TestD7ArmWhileDown(t *testing.T) {
	d := fallen(t, 9)
	for _, n := range []int{-1, 0, 1, math.MaxInt} {
		mustBe(t, "Arm("+strconv.Itoa(n)+")", d.Arm(n), api.ErrDown)
	}
	for _, n := range []int{-2, math.MinInt} {
		mustBe(t, "Arm("+strconv.Itoa(n)+")", d.Arm(n), api.ErrArg)
	}
	if !d.Down() {
		t.Error("not down any more")
	}
}

// What is wrong with a step goes ahead of the fall: the disk does not fall, and is armed as it was.
func TestD7WrongStepsDoNotCount(t *testing.T) {
	d := mustNew(t, 2, file("a", "x", 0))
	mustBe(t, "Arm", d.Arm(1), api.OK)
	wrongSteps(t, d)
	mustBe(t, "the step", d.Append("a", ""), api.OK)
	wrongSteps(t, d)
	if d.Down() || d.Steps() != 1 {
		t.Errorf("Down %t, Steps %d", d.Down(), d.Steps())
	}
	mustBe(t, "the step at which it falls", d.Append("a", ""), api.ErrDown)
}

func wrongSteps(t *testing.T, d *disk.Disk) {
	t.Helper()
	mustBe(t, "Append(A)", d.Append("A", ""), api.ErrName)
	mustBe(t, "Append of too much", d.Append("a", "yz"), api.ErrFull)
	mustBe(t, "Sync(A)", d.Sync("A"), api.ErrName)
	mustBe(t, "Sync(none)", d.Sync("none"), api.ErrNoFile)
	mustBe(t, "Rename(a, A)", d.Rename("a", "A"), api.ErrName)
	mustBe(t, "Rename(none, a)", d.Rename("none", "a"), api.ErrNoFile)
	mustBe(t, "Remove(A)", d.Remove("A"), api.ErrName)
	mustBe(t, "Remove(none)", d.Remove("none"), api.ErrNoFile)
	if _, e := d.Read("none"); e != api.ErrNoFile {
		t.Errorf("Read(none): %d", e)
	}
	mustHave(t, d, file("a", "x", 0))
}

// A disk that is down says so ahead of whatever else is wrong.
func TestD7DownGoesAhead(t *testing.T) {
	d := fallen(t, 2, file("a", "x", 0))
	for i, e := range []api.Errno{d.Append("A", ""), d.Append("a", "yz"), d.Sync("A"), d.Sync("none"), d.Rename("a", "A"), d.Rename("none", "a"), d.Remove(""), d.Remove("none")} {
		if e != api.ErrDown {
			t.Errorf("step %d: %d", i, e)
		}
	}
	mustHave(t, d, file("a", "x", 0))
}

func TestD8Crash(t *testing.T) {
	given := files(file("a", "123", 0), file("b", "456", 3), file("c", "", 0), file("d", "789", 1), file("e", "xyz", 2))
	for _, c := range []struct {
		keep    []int
		a, d, e string
	}{
		{nil, "", "7", "xy"},
		{[]int{}, "", "7", "xy"},
		{[]int{0, 0, 0}, "", "7", "xy"},
		{[]int{1}, "1", "7", "xy"},
		{[]int{2}, "12", "7", "xy"},
		{[]int{3}, "123", "7", "xy"},
		{[]int{4}, "123", "7", "xy"},
		{[]int{-1, 1}, "", "78", "xy"},
		{[]int{0, 2}, "", "789", "xy"},
		{[]int{0, 3}, "", "789", "xy"},
		{[]int{0, 0, 1}, "", "7", "xyz"},
		{[]int{0, 0, 2}, "", "7", "xyz"},
		{[]int{1, 1, 1}, "1", "78", "xyz"},
		{[]int{2, -5, 9, 9, 9}, "12", "7", "xyz"},
		{[]int{math.MaxInt, math.MaxInt, math.MaxInt}, "123", "789", "xyz"},
		{[]int{math.MinInt, math.MinInt, math.MinInt}, "", "7", "xy"},
		{[]int{math.MinInt, math.MaxInt}, "", "789", "xy"},
	} {
		for _, d := range []*disk.Disk{mustNew(t, 99, given...), fallen(t, 99, given...)} {
			d.Crash(c.keep...)
			mustHave(t, d, file("a", c.a, len(c.a)), file("b", "456", 3), file("c", "", 0), file("d", c.d, len(c.d)), file("e", c.e, len(c.e)))
			if d.Down() || d.Steps() != 0 || d.Free() != 99-3-len(c.a+c.d+c.e) {
				t.Errorf("Crash(%v): Down %t, Steps %d, Free %d", c.keep, d.Down(), d.Steps(), d.Free())
			}
		}
	}
}

func TestD8CrashOfNoTails(t *testing.T) {
	d := mustNew(t, 9)
	d.Crash(1, 2)
	mustHave(t, d)
	d = mustNew(t, 9, file("a", "1", 1))
	d.Crash(0, 0)
	d.Crash()
	mustHave(t, d, file("a", "1", 1))
}

// A crash ends being armed, whether the disk has fallen or not.
func TestD8CrashDisarms(t *testing.T) {
	armed := mustNew(t, 9)
	mustBe(t, "Arm", armed.Arm(0), api.OK)
	later := mustNew(t, 9)
	mustBe(t, "Arm", later.Arm(2), api.OK)
	for _, d := range []*disk.Disk{armed, later, fallen(t, 9)} {
		d.Crash()
		for range 9 {
			mustBe(t, "a step behind the crash", d.Append("a", "x"), api.OK)
		}
		if d.Down() || d.Steps() != 9 {
			t.Errorf("Down %t, Steps %d", d.Down(), d.Steps())
		}
	}
}

// What is written behind a crash stands where the lost bytes stood, and is not safe.
func TestD8WritingBehindACrash(t *testing.T) {
	d := mustNew(t, 9, file("a", "12345", 1))
	d.Crash(1)
	mustBe(t, "Append", d.Append("a", "x"), api.OK)
	mustHave(t, d, file("a", "12x", 2))
	d.Crash()
	mustHave(t, d, file("a", "12", 2))
	if d.Free() != 7 {
		t.Errorf("Free() = %d", d.Free())
	}
}

func TestExamples(t *testing.T) {
	d := mustNew(t, 10)
	mustBe(t, "Append(A)", d.Append("A", "x"), api.ErrName)
	mustBe(t, "Append of 11 bytes", d.Append("b", strings.Repeat("x", 11)), api.ErrFull)
	mustBe(t, "Sync(b)", d.Sync("b"), api.ErrNoFile)
	mustBe(t, "Append(b, nothing)", d.Append("b", ""), api.OK)
	mustHave(t, d, file("b", "", 0))

	d = mustNew(t, 10)
	mustBe(t, "Arm(1)", d.Arm(1), api.OK)
	mustBe(t, "Append(a, x)", d.Append("a", "x"), api.OK)
	mustBe(t, "Append(a, y)", d.Append("a", "y"), api.ErrDown)
	if _, e := d.Read("a"); e != api.ErrDown || !d.Down() {
		t.Errorf("Read(a): %d, Down %t", e, d.Down())
	}
	d.Crash()
	mustHave(t, d, file("a", "", 0))

	d = mustNew(t, 10, file("a", "1", 1), file("b", "23", 1))
	mustBe(t, "Rename(b, a)", d.Rename("b", "a"), api.OK)
	mustHave(t, d, file("a", "23", 1))
	d.Crash(0)
	mustHave(t, d, file("a", "2", 1))
}
