package disk_test

import (
	"slices"
	"strings"
	"testing"
	"unsafe"

	"unison/api"
	"unison/disk"
)

// plain is a disk as the chapter's words tell it: a list of files, gone through from the front.
type plain struct {
	l                  []api.File
	size, steps, armed int
	down               bool
}

func (p *plain) at(name string) int {
	return slices.IndexFunc(p.l, func(f api.File) bool { return f.Name == name })
}

func (p *plain) free() int {
	n := p.size
	for _, f := range p.l {
		n -= len(f.Data)
	}
	return n
}

func (p *plain) files() []api.File {
	return slices.SortedFunc(slices.Values(p.l), func(a, b api.File) int { return strings.Compare(a.Name, b.Name) })
}

// act is one call of a disk.
type act struct {
	kind       string
	name, more string
	keep       []int
}

// wrong is the first error that the promise of a step names.
func (p *plain) wrong(a act) api.Errno {
	if !slices.Contains([]string{"a", "b", "c", "abcdefghijklmnop"}, a.name) || a.kind == "rename" && a.more == "B" {
		return api.ErrName
	}
	there := p.at(a.name) >= 0
	if a.kind == "append" {
		if len(a.more) > p.free() || !there && len(p.l) == 64 {
			return api.ErrFull
		}
	} else if !there {
		return api.ErrNoFile
	}
	return api.OK
}

func (p *plain) step(a act) api.Errno {
	if p.down {
		return api.ErrDown
	}
	if e := p.wrong(a); e != api.OK {
		return e
	}
	if p.armed == 0 {
		p.down = true
		return api.ErrDown
	}
	if p.armed > 0 {
		p.armed--
	}
	p.steps++
	switch i := p.at(a.name); a.kind {
	case "append":
		if i < 0 {
			i = len(p.l)
			p.l = append(p.l, api.File{Name: a.name})
		}
		p.l[i].Data += a.more
	case "sync":
		p.l[i].Safe = len(p.l[i].Data)
	case "rename":
		f := p.l[i]
		f.Name = a.more
		p.l = slices.DeleteFunc(p.l, func(o api.File) bool { return o.Name == a.name || o.Name == a.more })
		p.l = append(p.l, f)
	case "remove":
		p.l = slices.Delete(p.l, i, i+1)
	}
	return api.OK
}

func (p *plain) arm(n int) api.Errno {
	if n < -1 {
		return api.ErrArg
	}
	if p.down {
		return api.ErrDown
	}
	p.armed = n
	return api.OK
}

func (p *plain) crash(keep []int) {
	p.l = p.files()
	tails := 0
	for i, f := range p.l {
		if len(f.Data) > f.Safe {
			stays := f.Safe
			for tails < len(keep) && stays < len(f.Data) && stays-f.Safe < keep[tails] {
				stays++
			}
			p.l[i].Data = f.Data[:stays]
			tails++
		}
		p.l[i].Safe = len(p.l[i].Data)
	}
	p.down, p.armed = false, -1
}

// both does an act on a disk and on a plain one, and holds the answers, and all that can be told, against each other.
func both(t *testing.T, d *disk.Disk, p *plain, a act) {
	t.Helper()
	got, want := api.OK, api.OK
	switch a.kind {
	case "append":
		got, want = d.Append(a.name, a.more), p.step(a)
	case "sync":
		got, want = d.Sync(a.name), p.step(a)
	case "rename":
		got, want = d.Rename(a.name, a.more), p.step(a)
	case "remove":
		got, want = d.Remove(a.name), p.step(a)
	case "arm":
		got, want = d.Arm(a.keep[0]), p.arm(a.keep[0])
	case "crash":
		d.Crash(a.keep...)
		p.crash(a.keep)
	}
	if got != want || !slices.Equal(d.Files(), p.files()) || d.Free() != p.free() || d.Steps() != p.steps || d.Down() != p.down {
		t.Fatalf("%v: %d, %v, Free %d, Steps %d, Down %t; want %d, %v, %d, %d, %t", a, got, d.Files(), d.Free(), d.Steps(), d.Down(), want, p.files(), p.free(), p.steps, p.down)
	}
	for _, name := range []string{"a", "b", "B"} {
		read := p.wrong(act{kind: "read", name: name})
		if p.down {
			read = api.ErrDown
		}
		s, e := d.Read(name)
		if e != read || e == api.OK && s != p.l[p.at(name)].Data || e != api.OK && s != "" {
			t.Fatalf("%v: Read(%q) = %q, %d", a, name, s, e)
		}
	}
}

// someActs has each kind of call, right and wrong.
func someActs() []act {
	return []act{
		{kind: "append", name: "a", more: "xy"}, {kind: "append", name: "b", more: "12345"}, {kind: "append", name: "b"}, {kind: "append", name: "B", more: "1"},
		{kind: "sync", name: "a"}, {kind: "sync", name: "b"}, {kind: "sync", name: ""},
		{kind: "rename", name: "a", more: "b"}, {kind: "rename", name: "b", more: "a"}, {kind: "rename", name: "b", more: "b"}, {kind: "rename", name: "b", more: "B"},
		{kind: "remove", name: "a"}, {kind: "remove", name: "b"},
		{kind: "arm", keep: []int{0}}, {kind: "arm", keep: []int{1}}, {kind: "arm", keep: []int{-1}}, {kind: "arm", keep: []int{-2}},
		{kind: "crash"}, {kind: "crash", keep: []int{1}}, {kind: "crash", keep: []int{-3, 4, 9}},
	}
}

// twoDisks are a new disk and a plain one with the same files.
func twoDisks(t *testing.T) (*disk.Disk, *plain) {
	t.Helper()
	d := mustNew(t, 9, file("b", "67", 1))
	return d, &plain{l: files(file("b", "67", 1)), size: 9, armed: -1}
}

func TestD1ToD8AllShortRuns(t *testing.T) {
	all := someActs()
	for i := range len(all) * len(all) * len(all) * len(all) {
		d, p := twoDisks(t)
		for range 4 {
			both(t, d, p, all[i%len(all)])
			i /= len(all)
		}
	}
}

// A run as long as the fuzzer likes: each byte is an act.
func FuzzD1ToD8(f *testing.F) {
	f.Add([]byte{0, 4, 0, 14, 1, 0, 18, 7, 19})
	f.Add([]byte{13, 0, 3, 15, 16, 17, 0, 0, 0, 0, 0})
	f.Fuzz(func(t *testing.T, run []byte) {
		all := someActs()
		d, p := twoDisks(t)
		for _, b := range run {
			both(t, d, p, all[int(b)%len(all)])
		}
	})
}

// Each step of a run in turn is the one at which the power fails, and each number of the tail's bytes is kept: what was safe begins what is left, and that begins what there was.
func TestD9CrashAtEachStep(t *testing.T) {
	for fall := range 9 {
		for kept := -1; kept <= 9; kept++ {
			for other := -1; other <= 9; other++ {
				d := mustNew(t, 99, file("b", "zz", 1))
				mustBe(t, "Arm", d.Arm(fall), api.OK)
				for _, step := range writing(d) {
					step()
				}
				if d.Steps() != min(fall, 8) || d.Down() != (fall < 8) {
					t.Fatalf("armed with %d: Steps %d, Down %t", fall, d.Steps(), d.Down())
				}
				before := d.Files()
				d.Crash(kept, other)
				soundCrash(t, before, d.Files())
			}
		}
	}
}

// writing is a run of eight steps.
func writing(d *disk.Disk) []func() api.Errno {
	return []func() api.Errno{
		func() api.Errno { return d.Append("a", "abc") },
		func() api.Errno { return d.Sync("a") },
		func() api.Errno { return d.Append("a", "de") },
		func() api.Errno { return d.Append("b", "12") },
		func() api.Errno { return d.Append("c", "456") },
		func() api.Errno { return d.Rename("a", "c") },
		func() api.Errno { return d.Append("c", "f") },
		func() api.Errno { return d.Remove("b") },
	}
}

func soundCrash(t *testing.T, before, left []api.File) {
	t.Helper()
	if len(left) != len(before) {
		t.Fatalf("of %v is left %v", before, left)
	}
	for i, f := range before {
		if left[i].Name != f.Name || left[i].Safe != len(left[i].Data) || !strings.HasPrefix(left[i].Data, f.Data[:f.Safe]) || !strings.HasPrefix(f.Data, left[i].Data) {
			t.Fatalf("of %v is left %v", f, left[i])
		}
	}
}

// A file's bytes are those that were appended to it, one behind the other, whatever it was called when they were.
func TestD9BytesAreWhatWasAppended(t *testing.T) {
	d := mustNew(t, 1000)
	want := ""
	name, other := "a", "b"
	for i := range 100 {
		piece := strings.Repeat(string(rune('a'+i%26)), i%5)
		mustBe(t, "Append", d.Append(name, piece), api.OK)
		want += piece
		if i%3 == 0 {
			mustBe(t, "Append to the other one", d.Append(other, "-"), api.OK)
			mustBe(t, "Rename", d.Rename(name, other), api.OK)
			name, other = other, name
		}
		if i%7 == 0 {
			mustBe(t, "Sync", d.Sync(name), api.OK)
		}
		if s, e := d.Read(name); s != want || e != api.OK {
			t.Fatalf("Read = %q, %d; want %q", s, e, want)
		}
	}
}

// The same calls tell the same, whatever order a map is gone through in.
func TestR6TheSameCallsTellTheSame(t *testing.T) {
	var first []api.File
	for i := range 100 {
		d := mustNew(t, 999, manyFiles(20)...)
		for j, f := range manyFiles(20) {
			mustBe(t, "Append", d.Append(f.Name, strings.Repeat("y", j)), api.OK)
		}
		d.Crash(0, 1, 2, 3, 4, 5, 6, 7, 8, 9)
		if i == 0 {
			first = d.Files()
		}
		mustHave(t, d, first...)
	}
	for i, f := range first {
		kept := 0
		if i < 10 {
			kept = i
		}
		if len(f.Data) != kept {
			t.Errorf("file %d has %d bytes", i, len(f.Data))
		}
	}
}

func TestR5ArgumentsStay(t *testing.T) {
	given := files(file("b", "456", 1), file("a", "123", 2), file("spare", "", 0))
	was := slices.Clone(given)
	d := mustNew(t, 99, given[:2]...)
	keep := []int{2, 1, 7}
	d.Append("a", "x")
	d.Crash(keep[:2]...)
	d.Rename("a", "b")
	if !slices.Equal(given, was) || !slices.Equal(keep, []int{2, 1, 7}) {
		t.Errorf("New's files are %v, Crash's numbers %v", given, keep)
	}
	before := d.Files()
	clear(given)
	clear(keep)
	mustHave(t, d, before...)
}

func TestR5AnswersAreNewMemory(t *testing.T) {
	d := mustNew(t, 99, file("a", "123", 2), file("b", "4", 0))
	l := d.Files()
	again := slices.Clone(l)
	clear(l)
	mustHave(t, d, again...)
	s, _ := d.Read("a")
	l = d.Files()
	d.Crash()
	mustBe(t, "Append", d.Append("a", "xyz"), api.OK)
	if s != "123" || !slices.Equal(l, again) {
		t.Errorf("what was answered is %q, %v now", s, l)
	}
	if a, b := d.Files()[0], d.Files()[0]; within(a.Name, b.Name) || within(a.Data, b.Data) {
		t.Error("two answers share memory")
	}
}

// A name or bytes that are a piece of a longer text must not keep all of it.
func TestR5TextsAreCopied(t *testing.T) {
	long := strings.Repeat("abc-", 100)
	d := mustNew(t, 999, file(long[0:4], long[:40], 1))
	mustBe(t, "Append", d.Append(long[1:5], long[:8]), api.OK)
	mustBe(t, "Append to the same file", d.Append(long[0:4], long[:8]), api.OK)
	mustBe(t, "Append", d.Append(long[2:4], long[:8]), api.OK)
	mustBe(t, "Rename", d.Rename(long[2:4], long[2:6]), api.OK)
	mustBe(t, "Sync", d.Sync(long[2:6]), api.OK)
	for _, f := range d.Files() {
		if within(f.Name, long) || within(f.Data, long) {
			t.Errorf("%v is a piece of an argument", f)
		}
		if s, _ := d.Read(f.Name); within(s, long) {
			t.Errorf("Read(%q) is a piece of an argument", f.Name)
		}
	}
}

// within tells whether a text's bytes lie in another one's memory.
func within(s, long string) bool {
	at, from := uintptr(unsafe.Pointer(unsafe.StringData(s))), uintptr(unsafe.Pointer(unsafe.StringData(long)))
	return from <= at && at < from+uintptr(len(long))
}

func TestR3ErrorsChangeNothing(t *testing.T) {
	for _, a := range someActs() {
		for _, b := range someActs() {
			d, p := twoDisks(t)
			both(t, d, p, a)
			was, steps, down := d.Files(), d.Steps(), d.Down()
			both(t, d, p, b)
			if failed := d.Steps() == steps && b.kind != "arm" && b.kind != "crash"; failed && !slices.Equal(d.Files(), was) || down && b.kind != "crash" && !d.Down() {
				t.Errorf("%v, %v: %v; it was %v", a, b, d.Files(), was)
			}
		}
	}
}

// Two disks have nothing in common.
func TestR5DisksAreApart(t *testing.T) {
	given := files(file("a", "123", 2))
	d, other := mustNew(t, 99, given...), mustNew(t, 99, given...)
	mustBe(t, "Append", d.Append("a", "x"), api.OK)
	mustBe(t, "Append", d.Append("b", "y"), api.OK)
	mustBe(t, "Arm", d.Arm(0), api.OK)
	mustBe(t, "Sync", d.Sync("a"), api.ErrDown)
	mustHave(t, other, given...)
	if other.Down() || other.Steps() != 0 {
		t.Errorf("Down %t, Steps %d", other.Down(), other.Steps())
	}
}
