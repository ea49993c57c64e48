package snap_test

import (
	"encoding/hex"
	"fmt"
	"math"
	"reflect"
	"slices"
	"strings"
	"testing"

	"unison/api"
	"unison/catalog"
	"unison/disk"
	"unison/frame"
	"unison/snap"
)

func num(n int) api.Value { return api.Value{Kind: api.Int, Int: n} }

func text(s string) api.Value { return api.Value{Kind: api.Text, Text: s} }

func yes() api.Value { return api.Value{Kind: api.Bool, Int: 1} }

func row(l ...api.Value) []api.Value { return l }

func rows(l ...[]api.Value) [][]api.Value { return l }

// small is chapter 8's table t.
func small() api.Table {
	return api.Table{
		Name:    "t",
		Columns: []api.Column{{Name: "id", Type: api.Int, NotNull: true}, {Name: "v", Type: api.Text}},
		Key:     []int{0},
		Indexes: []api.Index{{Name: "by_v", Columns: []int{1}}},
	}
}

// pairs has a key of two columns, the second one ahead, and no two rows with the same n.
func pairs() api.Table {
	return api.Table{
		Name:    "pairs",
		Columns: []api.Column{{Name: "a", Type: api.Text, NotNull: true}, {Name: "b", Type: api.Int, NotNull: true}, {Name: "n", Type: api.Int}, {Name: "ok", Type: api.Bool}},
		Key:     []int{1, 0},
		Part:    1,
		Indexes: []api.Index{{Name: "by_n", Columns: []int{2}, Unique: true}},
	}
}

// some is a snapshot that has all there may be in one.
func some() api.Snap {
	put := api.Proc{Name: "put", Params: []api.Param{{Name: "k", Type: api.Int}}, Body: []string{"INSERT INTO t VALUES (:k, NULL)"}, Rows: 3, Bytes: 200}
	return api.Snap{
		Catalog: api.Catalog{Tables: []api.Table{small(), pairs()}, Procs: []api.Proc{put}},
		Pos:     300,
		State: api.State{Tables: [][][]api.Value{
			rows(row(num(-1), api.Value{}), row(num(2), text("a")), row(num(3), text("a"))),
			rows(row(text("z"), num(1), num(7), yes()), row(text("a"), num(2), api.Value{}, api.Value{}), row(text("b"), num(2), api.Value{}, api.Value{})),
		}},
		Last: []api.Done{
			{Client: 2, Seq: 1, Pos: 299, Reply: api.Reply{Code: api.ErrUnique, At: 1}},
			{Client: 3, Seq: 9, Pos: 0, Reply: api.Reply{Results: []api.Result{{Count: 4}, {Rows: rows(row(num(1), api.Value{}), row(text("it")))}, {}}}},
			{Client: 64, Seq: 200, Pos: 7},
		},
	}
}

// empty is the snapshot of a place without anything else.
func empty(pos int) api.Snap { return api.Snap{Pos: pos} }

// filled is a snapshot of a place, of so many bytes.
func filled(t testing.TB, pos, size int) api.Snap {
	t.Helper()
	for count := size - 300; count < size; count++ {
		x := empty(pos)
		for i := range (count + 899) / 900 {
			p := api.Proc{Name: fmt.Sprintf("p%d", i%8), Body: []string{strings.Repeat("x", min(900, count-900*i))}}
			if i < 8 {
				x.Catalog.Procs = append(x.Catalog.Procs, p)
			} else {
				x.Catalog.Procs[i%8].Body = append(x.Catalog.Procs[i%8].Body, p.Body...)
			}
		}
		if s, e := snap.Encode(x); e == api.OK && len(s) == size {
			return x
		}
	}
	t.Fatalf("no snapshot of %d bytes", size)
	return api.Snap{}
}

// bytes are those that are written in hexadecimal.
func bytes(t testing.TB, l ...string) string {
	t.Helper()
	s, err := hex.DecodeString(strings.NewReplacer(" ", "", ",", "").Replace(strings.Join(l, "")))
	if err != nil {
		t.Fatal(err)
	}
	return string(s)
}

// shown is something in a form that can be read, in which a nil list and an empty one are the same.
func shown(x any) string { return fmt.Sprintf("%+v", x) }

func mustEncode(t testing.TB, x api.Snap) string {
	t.Helper()
	s, e := snap.Encode(x)
	if e != api.OK {
		t.Fatalf("Encode(%s): %d", shown(x), e)
	}
	return s
}

// mustTell holds a snapshot against its bytes, both ways.
func mustTell(t testing.TB, x api.Snap, s string) {
	t.Helper()
	if got, e := snap.Encode(x); got != s || e != api.OK {
		t.Errorf("Encode(%s) = %x, %d; want %x", shown(x), got, e, s)
	}
	if got, e := snap.Decode(s); shown(got) != shown(x) || e != api.OK {
		t.Errorf("Decode(%x) = %s, %d; want %s", s, shown(got), e, shown(x))
	}
}

// none tells whether a snapshot is the zero one.
func none(x api.Snap) bool { return reflect.ValueOf(x).IsZero() }

// mustBe holds it that a snapshot may be, or may not.
func mustBe(t testing.TB, what string, x api.Snap, may bool) {
	t.Helper()
	s, e := snap.Encode(x)
	if want := wanted(may); e != want || (s == "") == may {
		t.Errorf("%s: Encode = %x, %d; want %d", what, s, e, want)
	}
	if got, e := snap.Decode(s); may && (e != api.OK || shown(got) != shown(x)) {
		t.Errorf("%s: Decode = %s, %d", what, shown(got), e)
	}
	d := newDisk(t, api.MaxDisk)
	if e := snap.Write(d, x); e != wanted(may) || d.Steps() > 0 != may {
		t.Errorf("%s: Write = %d, %d steps", what, e, d.Steps())
	}
}

func wanted(may bool) api.Errno {
	if may {
		return api.OK
	}
	return api.ErrSnap
}

func newDisk(t testing.TB, size int, l ...api.File) *disk.Disk {
	t.Helper()
	d, e := disk.New(size, l...)
	if e != api.OK {
		t.Fatalf("a test's disk of %d bytes: %d", size, e)
	}
	return d
}

// framed are bytes in frames, as the chapter's words have it.
func framed(s string) string {
	out := ""
	for at := 0; at < len(s); at += 4096 {
		f, _ := frame.Wrap(s[at:min(at+4096, len(s))])
		out += f
	}
	return out
}

// safe is a file, all of whose bytes are safe; loose one of which none is.
func safe(name, data string) api.File { return api.File{Name: name, Data: data, Safe: len(data)} }

func loose(name, data string) api.File { return api.File{Name: name, Data: data} }

// file is a snapshot's.
func file(t testing.TB, x api.Snap) api.File {
	t.Helper()
	return safe(fmt.Sprintf("snap.%011d", x.Pos), framed(mustEncode(t, x)))
}

func listed(l []api.File) string {
	s := ""
	for _, f := range l {
		s += fmt.Sprintf("[%s %.60q %d %d]", f.Name, f.Data, len(f.Data), f.Safe)
	}
	return s
}

func mustLie(t testing.TB, what string, d *disk.Disk, l ...api.File) {
	t.Helper()
	if !slices.Equal(d.Files(), l) {
		t.Errorf("%s: %s; want %s", what, listed(d.Files()), listed(l))
	}
}

func mustWrite(t testing.TB, d *disk.Disk, x api.Snap, want api.Errno) {
	t.Helper()
	if e := snap.Write(d, x); e != want {
		t.Errorf("Write: %d; want %d", e, want)
	}
}

func mustRead(t testing.TB, what string, d *disk.Disk, x api.Snap) {
	t.Helper()
	if got, e := snap.Read(d); e != api.OK || shown(got) != shown(x) {
		t.Errorf("%s: Read = %s, %d; want %s", what, shown(got), e, shown(x))
	}
}

func mustNotRead(t testing.TB, what string, d *disk.Disk, want api.Errno) {
	t.Helper()
	was, steps := d.Files(), d.Steps()
	if got, e := snap.Read(d); e != want || !none(got) {
		t.Errorf("%s: Read = %s, %d; want %d", what, shown(got), e, want)
	}
	if mustLie(t, what, d, was...); d.Steps() != steps {
		t.Errorf("%s: a step", what)
	}
}

func TestExamples(t *testing.T) {
	mustTell(t, empty(0), bytes(t, "02 00 00, 00, 00"))
	x := api.Snap{Pos: 300, Last: []api.Done{{Client: 2, Seq: 1, Pos: 299, Reply: api.Reply{Code: 91, At: 1}}}}
	mustTell(t, x, bytes(t, "02 00 00, ac 02, 01, 02 01 ab 02, 5b 01 00"))

	d := newDisk(t, 100)
	mustNotRead(t, "without files", d, api.ErrNone)
	mustWrite(t, d, empty(0), api.OK)
	mustLie(t, "the first one", d, safe("snap.00000000000", framed("\x02\x00\x00\x00\x00")))
	if f := d.Files()[0].Data; len(f) != 6+5 {
		t.Errorf("%d bytes", len(f))
	}
	mustWrite(t, d, empty(7), api.OK)
	mustLie(t, "one of 7", d, safe("snap.00000000007", framed("\x02\x00\x00\x07\x00")))

	f := file(t, empty(3))
	mustRead(t, "just it", newDisk(t, 100, f), empty(3))
	mustNotRead(t, "a byte more", newDisk(t, 100, safe(f.Name, f.Data+"x")), api.ErrSnap)
}

func TestX1Bytes(t *testing.T) {
	t8 := "01, 01 74, 02, 02 69 64 01 01, 01 76 03 00, 01 00, 00, 01, 04 62 79 5f 76 00 01 01, 00"
	x := api.Snap{Catalog: api.Catalog{Tables: []api.Table{small()}}, Pos: 5, State: api.State{Tables: [][][]api.Value{nil}}}
	mustTell(t, x, bytes(t, "1a", t8, "05, 00, 00"))
	x.State.Tables[0] = rows(row(num(1), api.Value{}), row(num(2), text("a")))
	mustTell(t, x, bytes(t, "1a", t8, "05, 02, 03 02 01 02, 05 02 0d 04 01 61, 00"))
	x.Last = []api.Done{
		{Client: 1, Seq: 1, Pos: 0, Reply: api.Reply{Results: []api.Result{{Count: 1}, {Rows: rows(row(), row(api.Value{}))}}}},
		{Client: 64, Seq: api.MaxInt, Pos: 4, Reply: api.Reply{Code: 999, At: 7}},
	}
	mustTell(t, x, bytes(t, "1a", t8, "05, 02, 03 02 01 02, 05 02 0d 04 01 61, 02",
		"01 01 00, 00 00 02, 01 00, 00 02 01 00 02 01 00",
		"40, 80 80 80 80 80 80 80 80 40, 04, e7 07 07 00"))
	y := api.Snap{Pos: 128, Last: []api.Done{{Client: 3, Seq: 127, Pos: 127, Reply: api.Reply{Results: []api.Result{{Count: 300, Rows: rows(row(yes()))}}}}}}
	mustTell(t, y, bytes(t, "02 00 00, 80 01, 01, 03 7f 7f, 00 00 01, ac 02 01 03 01 02 01"))
}

// Each table's rows stand one behind the other, without a number of tables ahead; lists may be long.
func TestX1Tables(t *testing.T) {
	x := some()
	s := mustEncode(t, x)
	defined, _ := catalog.Encode(x.Catalog)
	rest, ok := strings.CutPrefix(s, string([]byte{byte(len(defined))})+defined+"\xac\x02\x03\x03\x02\x01\x01")
	if !ok || !strings.HasPrefix(rest, bytes(t, "05 02 0d 04 01 61, 05 02 0d 06 01 61, 03, 07 04 97 01 7a 02 0e 01")) {
		t.Errorf("%x", s)
	}
	mustTell(t, x, s)
	x = api.Snap{Catalog: api.Catalog{Tables: []api.Table{small()}}, State: api.State{Tables: [][][]api.Value{nil}}}
	for i := range 300 {
		x.State.Tables[0] = append(x.State.Tables[0], row(num(i), text(strings.Repeat("y", 64))))
	}
	if s = mustEncode(t, x); !strings.Contains(s, "\xac\x02\x44\x02\x0d\x00\x40yyy") || len(s) < 300*67 {
		t.Errorf("%.80x", s)
	}
	mustTell(t, x, s)
}

// turned is some with one thing another one.
func turned(turn func(x *api.Snap)) api.Snap {
	x := some()
	turn(&x)
	return x
}

// each is one kind of number that a snapshot has, and the least and the greatest that it may be.
type each struct {
	name        string
	in          func(x *api.Snap) *int
	least, most int
}

func numbers() []each {
	return []each{
		{"Pos", func(x *api.Snap) *int { return &x.Pos }, 300, 99999999999},
		{"Client of the first", func(x *api.Snap) *int { return &x.Last[0].Client }, 1, 2},
		{"Client of the second", func(x *api.Snap) *int { return &x.Last[1].Client }, 3, 63},
		{"Client of the last", func(x *api.Snap) *int { return &x.Last[2].Client }, 4, 64},
		{"Seq", func(x *api.Snap) *int { return &x.Last[1].Seq }, 1, api.MaxInt},
		{"Pos of a call", func(x *api.Snap) *int { return &x.Last[2].Pos }, 0, 299},
		{"Code beside an At", func(x *api.Snap) *int { return (*int)(&x.Last[0].Reply.Code) }, 1, 999},
		{"Code beside Results", func(x *api.Snap) *int { return (*int)(&x.Last[1].Reply.Code) }, 0, 0},
		{"Code beside none", func(x *api.Snap) *int { return (*int)(&x.Last[2].Reply.Code) }, 0, 999},
		{"At beside a Code", func(x *api.Snap) *int { return &x.Last[0].Reply.At }, 0, 7},
		{"At beside Results", func(x *api.Snap) *int { return &x.Last[1].Reply.At }, 0, 0},
		{"At beside none", func(x *api.Snap) *int { return &x.Last[2].Reply.At }, 0, 0},
		{"Count", func(x *api.Snap) *int { return &x.Last[1].Reply.Results[0].Count }, 0, api.MaxInt},
		{"Count beside Rows", func(x *api.Snap) *int { return &x.Last[1].Reply.Results[1].Count }, 0, api.MaxInt},
		{"a number told", func(x *api.Snap) *int { return &x.Last[1].Reply.Results[1].Rows[0][0].Int }, -api.MaxInt, api.MaxInt},
		{"a number's Kind", func(x *api.Snap) *int { return &x.Last[1].Reply.Results[1].Rows[0][0].Kind }, 1, 2},
		{"a key ahead", func(x *api.Snap) *int { return &x.State.Tables[0][0][0].Int }, -api.MaxInt, 1},
		{"a key between", func(x *api.Snap) *int { return &x.State.Tables[0][1][0].Int }, 0, 2},
		{"a key behind", func(x *api.Snap) *int { return &x.State.Tables[0][2][0].Int }, 3, api.MaxInt},
		{"a truth", func(x *api.Snap) *int { return &x.State.Tables[1][0][3].Int }, 0, 1},
		{"a type", func(x *api.Snap) *int { return &x.Catalog.Tables[0].Columns[1].Type }, 3, 3},
		{"Part", func(x *api.Snap) *int { return &x.Catalog.Tables[1].Part }, 0, 1},
		{"Rows of a procedure", func(x *api.Snap) *int { return &x.Catalog.Procs[0].Rows }, 0, 1048576},
	}
}

func TestX1Numbers(t *testing.T) {
	for _, n := range numbers() {
		for _, at := range []int{n.least, n.most, n.least - 1, n.most + 1, math.MinInt, math.MaxInt} {
			x := some()
			*n.in(&x) = at
			mustBe(t, fmt.Sprintf("%s %d", n.name, at), x, n.least <= at && at <= n.most)
		}
	}
	mustBe(t, "Pos 0", turned(func(x *api.Snap) { x.Pos, x.Last = 0, nil }), true)
	mustBe(t, "Pos -1", turned(func(x *api.Snap) { x.Pos, x.Last = -1, nil }), false)
	mustBe(t, "Last of Pos 0", turned(func(x *api.Snap) { x.Pos, x.Last = 0, x.Last[1:2] }), false)
	mustBe(t, "Last of Pos 1", turned(func(x *api.Snap) { x.Pos, x.Last = 1, x.Last[1:2] }), true)
}

// results are so many.
func results(n int) []api.Result { return make([]api.Result, n) }

// clients are the last calls of all of them.
func clients() []api.Done {
	var l []api.Done
	for c := 1; c <= 64; c++ {
		l = append(l, api.Done{Client: c, Seq: c, Pos: 7})
	}
	return l
}

func TestX1MayBe(t *testing.T) {
	for what, turn := range map[string]func(x *api.Snap){
		"as it is":                    func(x *api.Snap) {},
		"no rows":                     func(x *api.Snap) { x.State.Tables[1] = nil },
		"no Last":                     func(x *api.Snap) { x.Last = nil },
		"all clients, of one place":   func(x *api.Snap) { x.Last = clients() },
		"eight results":               func(x *api.Snap) { x.Last[1].Reply.Results = results(8) },
		"a row of 16 that is told":    func(x *api.Snap) { x.Last[1].Reply.Results[0].Rows = rows(make([]api.Value, 16)) },
		"a row of none that is told":  func(x *api.Snap) { x.Last[1].Reply.Results[0].Rows = rows(nil) },
		"rows of all widths":          func(x *api.Snap) { x.Last[1].Reply.Results[0].Rows = rows(nil, row(num(1)), nil, row(yes(), yes())) },
		"a text of 64 that is told":   func(x *api.Snap) { x.Last[1].Reply.Results[1].Rows[1][0] = text(strings.Repeat("x", 64)) },
		"a NULL":                      func(x *api.Snap) { x.State.Tables[0][1][1] = api.Value{} },
		"two NULLs in a Unique index": func(x *api.Snap) { x.State.Tables[1][0][2] = api.Value{} },
		"another one there":           func(x *api.Snap) { x.State.Tables[1][1][2] = num(8) },
		"a wrong source":              func(x *api.Snap) { x.Catalog.Procs[0].Body[0] = "\xff" },
		"a catalog of procedures": func(x *api.Snap) {
			x.Catalog.Tables, x.State.Tables = nil, nil
		},
	} {
		mustBe(t, what, turned(turn), true)
	}
}

func TestX1MayNotBe(t *testing.T) {
	for what, turn := range map[string]func(x *api.Snap){
		"a table less":                  func(x *api.Snap) { x.State.Tables = x.State.Tables[:1] },
		"a table more":                  func(x *api.Snap) { x.State.Tables = append(x.State.Tables, nil) },
		"no tables":                     func(x *api.Snap) { x.State.Tables = nil },
		"tables exchanged":              func(x *api.Snap) { slices.Reverse(x.State.Tables) },
		"a wrong catalog":               func(x *api.Snap) { x.Catalog.Procs[0].Body = nil },
		"two tables of one name":        func(x *api.Snap) { x.Catalog.Tables[1].Name = "t" },
		"nine tables":                   func(x *api.Snap) { *x = nine() },
		"rows exchanged":                func(x *api.Snap) { slices.Reverse(x.State.Tables[0]) },
		"a row twice":                   func(x *api.Snap) { x.State.Tables[0][1] = x.State.Tables[0][0] },
		"rows by another column":        func(x *api.Snap) { x.State.Tables[1][1][0], x.State.Tables[1][2][0] = text("b"), text("a") },
		"a short row":                   func(x *api.Snap) { x.State.Tables[0][2] = x.State.Tables[0][2][:1] },
		"a long row":                    func(x *api.Snap) { x.State.Tables[0][2] = append(x.State.Tables[0][2], api.Value{}) },
		"a row of nothing":              func(x *api.Snap) { x.State.Tables[0][0] = nil },
		"a NULL in the key":             func(x *api.Snap) { x.State.Tables[0][0][0] = api.Value{} },
		"another type":                  func(x *api.Snap) { x.State.Tables[0][0][1] = num(1) },
		"a wrong value":                 func(x *api.Snap) { x.State.Tables[0][0][1] = api.Value{Int: 1} },
		"a text of 65":                  func(x *api.Snap) { x.State.Tables[0][0][1] = text(strings.Repeat("x", 65)) },
		"two that meet":                 func(x *api.Snap) { x.State.Tables[1][2][2] = num(7) },
		"a client twice":                func(x *api.Snap) { x.Last[1].Client = 2 },
		"clients exchanged":             func(x *api.Snap) { slices.Reverse(x.Last) },
		"clients that rise and fall":    func(x *api.Snap) { x.Last[2].Client = 2 },
		"65 Last":                       func(x *api.Snap) { x.Last = append(clients(), api.Done{Client: 65, Seq: 1}) },
		"65 Last, one twice":            func(x *api.Snap) { x.Last = append(clients(), api.Done{Client: 64, Seq: 1}) },
		"65 Last, one of 0":             func(x *api.Snap) { x.Last = append([]api.Done{{Seq: 1}}, clients()...) },
		"nine results":                  func(x *api.Snap) { x.Last[1].Reply.Results = results(9) },
		"results beside a Code":         func(x *api.Snap) { x.Last[0].Reply.Results = results(1) },
		"a row of 17 that is told":      func(x *api.Snap) { x.Last[1].Reply.Results[0].Rows = rows(make([]api.Value, 17)) },
		"a wrong value that is told":    func(x *api.Snap) { x.Last[1].Reply.Results[1].Rows[1][0].Int = 1 },
		"a text of 65 that is told":     func(x *api.Snap) { x.Last[1].Reply.Results[1].Rows[1][0] = text(strings.Repeat("x", 65)) },
		"one in the last result":        func(x *api.Snap) { x.Last[1].Reply.Results[2].Rows = rows(row(num(1)), row(api.Value{Kind: 4})) },
		"one in the last client's call": func(x *api.Snap) { x.Last[2].Reply.Results = []api.Result{{Count: -1}} },
	} {
		mustBe(t, what, turned(turn), false)
	}
}

// nine is a snapshot of nine tables.
func nine() api.Snap {
	x := api.Snap{}
	for i := range 9 {
		y := small()
		y.Name = fmt.Sprint("t", i)
		x.Catalog.Tables = append(x.Catalog.Tables, y)
	}
	x.State.Tables = make([][][]api.Value, 9)
	return x
}

// mustNotDecode holds it that a text is no snapshot's bytes.
func mustNotDecode(t testing.TB, what, s string) {
	t.Helper()
	if x, e := snap.Decode(s); e != api.ErrSnap || !none(x) {
		t.Errorf("%s: Decode(%.200x) = %s, %d; want %d", what, s, shown(x), e, api.ErrSnap)
	}
}

func TestX1Decode(t *testing.T) {
	s := mustEncode(t, some())
	for i := range len(s) {
		mustNotDecode(t, "a beginning", s[:i])
		mustNotDecode(t, "an end", s[i+1:])
	}
	for _, more := range []string{"\x00", "\x01", "x", "\x80", s} {
		mustNotDecode(t, "more behind it", s+more)
		mustNotDecode(t, "more ahead of it", more+s)
	}
	for what, l := range map[string]string{
		"nought in two digits":       "02 00 00, 80 00, 00",
		"one in two digits":          "02 00 00, 81 00, 00",
		"many digits":                "02 00 00, 80 80 80 80 80 80 80 80 80 80 80 80 00, 00",
		"digits that never end":      "02 00 00, 80 80 80 80 80 80 80 80 80 80 80 80 80 80",
		"2^64 and 1":                 "02 00 00, 81 80 80 80 80 80 80 80 80 02, 00",
		"2^63":                       "02 00 00, 80 80 80 80 80 80 80 80 80 01, 00",
		"Pos 10^11":                  "02 00 00, 80 d0 db c3 f4 02, 00",
		"a catalog in two digits":    "82 00 00 00, 00, 00",
		"a catalog of no bytes":      "00, 00, 00",
		"a catalog of one byte":      "01 00, 00, 00",
		"a catalog of three bytes":   "03 00 00 00, 00, 00",
		"a catalog that is cut":      "05 00 00",
		"a catalog that is too long": "05 00 00 00 00",
		"Last that are none":         "02 00 00, 00, 01",
		"more Last than there are":   "02 00 00, 01, 02, 01 01 00, 00 00 00",
		"fewer Last than there are":  "02 00 00, 01, 00, 01 01 00, 00 00 00",
		"a great count":              "02 00 00, 01, ff ff ff ff ff ff ff ff 3f",
		"a greater count":            "02 00 00, 01, ff ff ff ff ff ff ff ff ff 01",
		"a great count of results":   "02 00 00, 01, 01, 01 01 00, 00 00 ff ff ff ff ff ff ff ff 3f",
		"a great count of rows":      "02 00 00, 01, 01, 01 01 00, 00 00 01, 00 ff ff ff ff ff ff ff ff 3f",
		"a row of a great length":    "02 00 00, 01, 01, 01 01 00, 00 00 01, 00 01 ff ff ff ff ff ff ff ff 3f 00",
		"a row of no bytes":          "02 00 00, 01, 01, 01 01 00, 00 00 01, 00 01 00",
		"a row with a byte more":     "02 00 00, 01, 01, 01 01 00, 00 00 01, 00 01 02 00 00",
		"a row with digits more":     "02 00 00, 01, 01, 01 01 00, 00 00 01, 00 01 04 01 01 80 00",
		"a Code of 1000":             "02 00 00, 01, 01, 01 01 00, e8 07 00 00",
		"a call of Pos":              "02 00 00, 01, 01, 01 01 01, 00 00 00",
		"a Seq of 2^62 and 1":        "02 00 00, 01, 01, 01 81 80 80 80 80 80 80 80 40 00, 00 00 00",
	} {
		mustNotDecode(t, what, bytes(t, l))
	}
	mustTell(t, api.Snap{Pos: 1, Last: []api.Done{{Client: 1, Seq: 1, Reply: api.Reply{Results: []api.Result{{Rows: rows(nil)}}}}}}, bytes(t, "02 00 00, 01, 01, 01 01 00, 00 00 01, 00 01 01 00"))
	mustTell(t, empty(99999999999), bytes(t, "02 00 00, ff cf db c3 f4 02, 00"))
}

// What is told of each text in which one byte is another one must be told back.
func TestX1EachByte(t *testing.T) {
	s := mustEncode(t, some())
	right, wrong := 0, 0
	for i := range len(s) {
		for b := range 256 {
			other := s[:i] + string([]byte{byte(b)}) + s[i+1:]
			x, e := snap.Decode(other)
			switch {
			case e == api.ErrSnap && none(x):
				wrong++
			case e == api.OK && mustEncode(t, x) == other:
				right++
			default:
				t.Errorf("Decode(%x) = %s, %d", other, shown(x), e)
			}
		}
	}
	if right < 3000 || wrong < 30000 {
		t.Error(right, wrong)
	}
}

func TestX2Frames(t *testing.T) {
	for _, size := range []int{4095, 4096, 4097, 8191, 8192, 8193, 20000} {
		x := filled(t, 12, size)
		s := mustEncode(t, x)
		d := newDisk(t, api.MaxDisk)
		mustWrite(t, d, x, api.OK)
		l := d.Files()
		if len(l) != 1 || l[0] != safe("snap.00000000012", framed(s)) {
			t.Errorf("%d bytes: %s", size, listed(l))
			continue
		}
		pieces, end := frame.All(l[0].Data)
		if len(pieces) != (size+4095)/4096 || end != len(l[0].Data) || strings.Join(pieces, "") != s {
			t.Errorf("%d bytes: %d pieces", size, len(pieces))
		}
		for i, p := range pieces {
			if len(p) == 0 || len(p) != 4096 && i < len(pieces)-1 {
				t.Errorf("%d bytes: piece %d of %d bytes", size, i, len(p))
			}
		}
		mustRead(t, fmt.Sprint(size, " bytes"), d, x)
	}
}

func TestX2Names(t *testing.T) {
	for pos, name := range map[int]string{0: "snap.00000000000", 1: "snap.00000000001", 42: "snap.00000000042", 1234567890: "snap.01234567890", 98765432101: "snap.98765432101", 99999999999: "snap.99999999999"} {
		d := newDisk(t, 1000)
		mustWrite(t, d, empty(pos), api.OK)
		mustLie(t, name, d, safe(name, framed(mustEncode(t, empty(pos)))))
		mustRead(t, name, d, empty(pos))
	}
}

// others are files that are no snapshots, though their names are like such ones'.
func others() []api.File {
	return []api.File{
		loose("log.000000000000", "abc"), safe("snap", "a"), safe("snap.", "b"), safe("snap.-0000000001", "c"), safe("snap.0000000000", "d"), safe("snap.0000000000.", "e"),
		safe("snap.0000000000a", "f"), safe("snap.9", "g"), safe("snap.neww", "h"), safe("snap0000000000.0", "i"), safe("snaq.00000000000", "j"), safe("xsnap.0000000001", "k"), safe("00000000004", "l"),
	}
}

// with are files by rising names.
func with(l []api.File, more ...api.File) []api.File {
	all := slices.Concat(l, more)
	slices.SortFunc(all, func(a, b api.File) int { return strings.Compare(a.Name, b.Name) })
	return all
}

// stages are what lies on a disk, one more step of Write having been done at each, from none on.
func stages(t testing.TB) [][]api.File {
	x := file(t, empty(5))
	whole := x.Data
	old, older, newer := file(t, empty(3)), loose("snap.00000000001", "torn"), safe("snap.00000000009", "")
	same, junk := safe("snap.00000000005", "junk"), loose("snap.new", "a draft")
	apart := with(others(), old, older, newer)
	return [][]api.File{
		with(apart, same, junk),
		with(apart, same),
		with(apart, same, loose("snap.new", whole)),
		with(apart, same, safe("snap.new", whole)),
		with(apart, x),
		with(others(), old, newer, x),
		with(others(), newer, x),
		with(others(), x),
	}
}

func TestX2Steps(t *testing.T) {
	all := stages(t)
	last := len(all) - 1
	d := newDisk(t, 1000, all[0]...)
	if mustWrite(t, d, empty(5), api.OK); d.Steps() != last {
		t.Errorf("%d steps", d.Steps())
	}
	mustLie(t, "all steps", d, all[last]...)
	for n, l := range all {
		d := newDisk(t, 1000, all[0]...)
		d.Arm(n)
		want := api.ErrDown
		if n == last {
			want = api.OK
		}
		mustWrite(t, d, empty(5), want)
		if mustLie(t, fmt.Sprint("fallen behind ", n), d, l...); d.Steps() != n || d.Down() != (n < last) {
			t.Errorf("fallen behind %d: %d steps, down: %t", n, d.Steps(), d.Down())
		}
	}
}

// Without what need not be taken away there are three steps.
func TestX2FewSteps(t *testing.T) {
	for what, l := range map[string][]api.File{"others": others(), "nothing": nil, "one of its name": {file(t, some())}} {
		d := newDisk(t, 10000, l...)
		mustWrite(t, d, some(), api.OK)
		if mustLie(t, what, d, with(slices.DeleteFunc(l, func(f api.File) bool { return f.Name == "snap.00000000300" }), file(t, some()))...); d.Steps() != 3 {
			t.Errorf("%s: %d steps", what, d.Steps())
		}
	}
}

func TestX2Errors(t *testing.T) {
	x, wrong := empty(5), empty(-1)
	old := file(t, empty(3))
	whole := framed(mustEncode(t, x))

	d := newDisk(t, 1000, old, loose("snap.new", "a draft"))
	mustWrite(t, d, wrong, api.ErrSnap)
	mustLie(t, "ErrSnap", d, old, loose("snap.new", "a draft"))
	d.Arm(0)
	mustWrite(t, d, wrong, api.ErrSnap)
	if d.Down() {
		t.Error("a wrong snapshot made the disk fall")
	}
	mustWrite(t, d, x, api.ErrDown)
	mustWrite(t, d, wrong, api.ErrSnap)
	mustWrite(t, d, x, api.ErrDown)
	mustLie(t, "ErrDown", d, old, loose("snap.new", "a draft"))
	d = newDisk(t, 0)
	d.Arm(0)
	d.Append("a", "")
	mustWrite(t, d, x, api.ErrDown)

	// The draft's room is free again ahead of Append; the others' is not.
	d = newDisk(t, len(old.Data)+len(whole), old, loose("snap.new", "a draft"))
	mustWrite(t, d, x, api.OK)
	mustLie(t, "just room", d, file(t, x))
	d = newDisk(t, len(old.Data)+len(whole)-1, old, loose("snap.new", "a draft"))
	mustWrite(t, d, x, api.ErrFull)
	mustLie(t, "ErrFull", d, old)
	if mustRead(t, "ErrFull", d, empty(3)); d.Steps() != 1 {
		t.Errorf("ErrFull: %d steps", d.Steps())
	}

	var many []api.File
	for i := range 63 {
		many = append(many, safe(fmt.Sprintf("a%02d", i), ""))
	}
	d = newDisk(t, 1000, many...)
	mustWrite(t, d, x, api.OK)
	mustWrite(t, d, empty(6), api.ErrFull)
	mustLie(t, "64 files", d, append(many, file(t, x))...)
	d = newDisk(t, 1000, append(many, loose("snap.new", ""))...)
	mustWrite(t, d, x, api.OK)
	mustLie(t, "64 files with a draft", d, append(many, file(t, x))...)
}

func TestX3TheLastByNames(t *testing.T) {
	three, seven, most := file(t, empty(3)), file(t, empty(7)), file(t, empty(99999999999))
	mustRead(t, "two", newDisk(t, 1000, three, seven), empty(7))
	mustRead(t, "three", newDisk(t, 1000, most, three, seven), empty(99999999999))
	mustRead(t, "some", newDisk(t, 10000, file(t, some()), seven), some())
	mustRead(t, "others", newDisk(t, 1000, with(others(), three, loose("snap.new", seven.Data))...), empty(3))
	mustRead(t, "a wrong one ahead", newDisk(t, 1000, safe(three.Name, "x"), seven), empty(7))
	mustNotRead(t, "a wrong one behind", newDisk(t, 1000, three, safe(seven.Name, "x")), api.ErrSnap)
	mustNotRead(t, "others alone", newDisk(t, 1000, others()...), api.ErrNone)
	mustNotRead(t, "a draft", newDisk(t, 1000, safe("snap.new", seven.Data)), api.ErrNone)
}

func TestX3Wrong(t *testing.T) {
	s := mustEncode(t, some())
	whole := framed(s)
	name := "snap.00000000300"
	for i := range len(whole) {
		mustNotRead(t, "a beginning", newDisk(t, 9999, safe(name, whole[:i])), api.ErrSnap)
		other := []byte(whole)
		other[i] ^= 1
		mustNotRead(t, "another byte", newDisk(t, 9999, safe(name, string(other))), api.ErrSnap)
	}
	noFrame, _ := frame.Wrap("")
	for what, data := range map[string]string{
		"a byte more":       whole + "x",
		"a frame's head":    whole + noFrame[:5],
		"twice":             whole + whole,
		"no frame":          s,
		"ahead of it":       "x" + whole,
		"a frame more":      whole + framed("\x00"),
		"a frame ahead":     framed("\x00") + whole,
		"another snapshot":  framed("\x02\x00\x00\x00\x00"),
		"of another place":  framed(mustEncode(t, turned(func(x *api.Snap) { x.Pos = 301 }))),
		"none":              framed("\x02\x00\x00\x80\x00\x00"),
		"a catalog alone":   framed("\x00\x00"),
		"a frame of nought": noFrame,
	} {
		mustNotRead(t, what, newDisk(t, 9999, safe(name, data)), api.ErrSnap)
	}
	for _, pos := range []int{0, 30, 299, 301, 3000} {
		mustNotRead(t, "another name", newDisk(t, 9999, safe(fmt.Sprintf("snap.%011d", pos), whole)), api.ErrSnap)
	}
}

// Frames of any length will do, and bytes that are not safe.
func TestX3AnyFrames(t *testing.T) {
	s := mustEncode(t, some())
	for size := 1; size < len(s); size += 7 {
		data := framed("")
		for at := 0; at < len(s); at += size {
			none, _ := frame.Wrap("")
			data += framed(s[at:min(at+size, len(s))]) + none
		}
		mustRead(t, fmt.Sprint("frames of ", size), newDisk(t, 99999, loose("snap.00000000300", data)), some())
	}
}

func TestX3Down(t *testing.T) {
	for what, l := range map[string][]api.File{"nothing": nil, "one": {file(t, empty(3))}, "a wrong one": {safe("snap.00000000003", "x")}} {
		d := newDisk(t, 1000, l...)
		d.Arm(0)
		if e := d.Append("z", ""); e != api.ErrDown {
			t.Fatal(e)
		}
		mustNotRead(t, what, d, api.ErrDown)
		d.Crash()
		if _, e := snap.Read(d); e == api.ErrDown {
			t.Errorf("%s: down behind a crash", what)
		}
	}
}

// befores are disks that have a snapshot, of another place or of the new one's own, with what falls ahead of them left behind, and what Read tells of them.
func befores(t testing.TB) (disks [][]api.File, told []api.Snap) {
	old := turned(func(x *api.Snap) { x.State.Tables[0] = nil })
	for _, pos := range []int{299, 300, 301, 12345678901} {
		last := turned(func(x *api.Snap) { x.Pos, x.Last, x.State = pos, nil, old.State })
		for _, more := range [][]api.File{nil, {loose("snap.new", "junk of a draft")}, {file(t, empty(2)), safe("snap.00000000007", "x")}, {file(t, empty(4)), safe("snap.new", "")}} {
			disks = append(disks, with(more, file(t, last)))
			told = append(told, last)
		}
	}
	return disks, told
}

func TestX4EachFall(t *testing.T) {
	disks, told := befores(t)
	for i, l := range disks {
		for fall := range 10 {
			for keep := range 40 {
				d := newDisk(t, 99999, l...)
				d.Arm(fall)
				e := snap.Write(d, some())
				d.Crash(keep*7, keep*7)
				x, f := snap.Read(d)
				isOld, isNew := shown(x) == shown(told[i]), shown(x) == shown(some())
				if f != api.OK || !isOld && !isNew || e == api.OK && !isNew {
					t.Fatalf("disk %d, fall %d, kept %d: Write %d, Read %s, %d", i, fall, keep*7, e, shown(x), f)
				}
				// Whatever is left: the next one that is written is told.
				mustWrite(t, d, empty(6), api.OK)
				d.Crash()
				mustRead(t, "the next one", d, empty(6))
				mustLie(t, "the next one", d, file(t, empty(6)))
			}
		}
	}
}

// Falls one behind the other, at all steps of Write, on a disk that had none first: once there was one, there is one.
func TestX4ManyFalls(t *testing.T) {
	for code := range 6 * 6 * 6 * 6 {
		d := newDisk(t, 99999)
		var told []api.Snap
		for n := range 4 {
			d.Arm(code % 6)
			code /= 6
			next := empty((n*7 + 3) % 10)
			e := snap.Write(d, next)
			d.Crash(n * 9)
			x, f := snap.Read(d)
			switch {
			case e == api.OK:
				told = []api.Snap{next}
			case f == api.OK:
				told = append(told, next)
			}
			if f == api.ErrNone && len(told) == 0 {
				continue
			}
			if f != api.OK || !slices.ContainsFunc(told, func(y api.Snap) bool { return shown(x) == shown(y) }) {
				t.Fatalf("%d: Write %d, Read %s, %d; want one of %s", n, e, shown(x), f, shown(told))
			}
			told = []api.Snap{x}
		}
	}
}
