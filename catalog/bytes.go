package catalog

import (
	"strings"

	"unison/api"
)

// Encode tells a catalog as bytes.
func Encode(c api.Catalog) (string, api.Errno) {
	if !Right(c) {
		return "", api.ErrCatalog
	}
	b := appendEach(nil, c.Tables, appendTable)
	return string(appendEach(b, c.Procs, appendProc)), api.OK
}

// Decode reads one.
func Decode(s string) (api.Catalog, api.Errno) {
	r := &reader{rest: s}
	c := api.Catalog{}
	c.Tables = readEach(r, api.MaxTables, (*reader).table)
	c.Procs = readEach(r, api.MaxProcs, (*reader).proc)
	// The reader finds something in any text: what is wrong with it shows in that Encode tells otherwise.
	if again, e := Encode(c); e != api.OK || again != s {
		return api.Catalog{}, api.ErrCatalog
	}
	return c, api.OK
}

// A number is digits of digitBits bits; goesOn is added to each but the last one.
const (
	digitBits = 7
	goesOn    = 1 << digitBits
)

func appendNumber(b []byte, n int) []byte {
	for n >= goesOn {
		b = append(b, byte(n%goesOn)+goesOn)
		n /= goesOn
	}
	return append(b, byte(n))
}

func appendBool(b []byte, yes bool) []byte {
	if yes {
		return appendNumber(b, 1)
	}
	return appendNumber(b, 0)
}

func appendText(b []byte, s string) []byte {
	return append(appendNumber(b, len(s)), s...)
}

// appendEach lays down how many there are, and each of them.
func appendEach[T any](b []byte, l []T, one func([]byte, T) []byte) []byte {
	b = appendNumber(b, len(l))
	for _, x := range l {
		b = one(b, x)
	}
	return b
}

func appendTable(b []byte, t api.Table) []byte {
	b = appendText(b, t.Name)
	b = appendEach(b, t.Columns, appendColumn)
	b = appendEach(b, t.Key, appendNumber)
	b = appendNumber(b, t.Part)
	return appendEach(b, t.Indexes, appendIndex)
}

func appendColumn(b []byte, c api.Column) []byte {
	return appendBool(appendNumber(appendText(b, c.Name), c.Type), c.NotNull)
}

func appendIndex(b []byte, x api.Index) []byte {
	return appendEach(appendBool(appendText(b, x.Name), x.Unique), x.Columns, appendNumber)
}

func appendProc(b []byte, p api.Proc) []byte {
	b = appendText(b, p.Name)
	b = appendEach(b, p.Params, appendParam)
	b = appendEach(b, p.Body, appendText)
	return appendNumber(appendNumber(b, p.Rows), p.Bytes)
}

func appendParam(b []byte, p api.Param) []byte {
	return appendNumber(appendText(b, p.Name), p.Type)
}

// reader goes along the bytes of a catalog. Where they are none it takes less than they say, so that it ends soon on whatever it is given.
type reader struct{ rest string }

// upTo reads a number; of a greater one it tells the most.
func (r *reader) upTo(most int) int {
	var n uint64
	for i := range len(r.rest) {
		digit := r.rest[i]
		n |= uint64(digit%goesOn) << (i * digitBits)
		if digit < goesOn {
			r.rest = r.rest[i+1:]
			return int(min(n, uint64(most)))
		}
	}
	r.rest = ""
	return 0
}

func (r *reader) truth() bool { return r.upTo(1) == 1 }

func (r *reader) kind() int { return r.upTo(api.Text) }

func (r *reader) place() int { return r.upTo(api.MaxColumns) }

func (r *reader) text() string {
	// In a statement of its own: reading a number shortens the rest, whose length must be asked behind that.
	count := r.upTo(api.MaxSource)
	end := min(count, len(r.rest))
	// A piece of what was handed in would be its memory.
	s := strings.Clone(r.rest[:end])
	r.rest = r.rest[end:]
	return s
}

// readEach reads how many there are, and each of them, but no more than the most.
func readEach[T any](r *reader, most int, one func(*reader) T) []T {
	var l []T
	for range r.upTo(most) {
		l = append(l, one(r))
	}
	return l
}

func (r *reader) table() api.Table {
	t := api.Table{Name: r.text()}
	t.Columns = readEach(r, api.MaxColumns, (*reader).column)
	t.Key = readEach(r, api.MaxParts, (*reader).place)
	t.Part = r.place()
	t.Indexes = readEach(r, api.MaxIndexes, (*reader).index)
	return t
}

func (r *reader) column() api.Column {
	c := api.Column{Name: r.text()}
	c.Type = r.kind()
	c.NotNull = r.truth()
	return c
}

func (r *reader) index() api.Index {
	x := api.Index{Name: r.text()}
	x.Unique = r.truth()
	x.Columns = readEach(r, api.MaxParts, (*reader).place)
	return x
}

func (r *reader) proc() api.Proc {
	p := api.Proc{Name: r.text()}
	p.Params = readEach(r, api.MaxParams, (*reader).param)
	p.Body = readEach(r, api.MaxBody, (*reader).text)
	p.Rows = r.upTo(api.MaxBudget)
	p.Bytes = r.upTo(api.MaxBudget)
	return p
}

func (r *reader) param() api.Param {
	p := api.Param{Name: r.text()}
	p.Type = r.kind()
	return p
}
