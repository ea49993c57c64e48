package snap

import (
	"unison/api"
	"unison/catalog"
	"unison/row"
)

// A number is digits of digitBits bits; goesOn is added to each but the last one.
const (
	digitBits = 7
	goesOn    = 1 << digitBits
)

func appendNumber(b []byte, n int) []byte {
	for n >= goesOn {
		b = append(b, byte(n%goesOn)+goesOn)
		n /= goesOn
	}
	return append(b, byte(n))
}

func appendText(b []byte, s string) []byte {
	return append(appendNumber(b, len(s)), s...)
}

// appendEach lays down how many there are, and each of them.
func appendEach[T any](b []byte, l []T, one func([]byte, T) []byte) []byte {
	b = appendNumber(b, len(l))
	for _, x := range l {
		b = one(b, x)
	}
	return b
}

// appendSnap lays down a snapshot that may be.
func appendSnap(b []byte, x api.Snap) []byte {
	defined, _ := catalog.Encode(x.Catalog)
	b = appendNumber(appendText(b, defined), x.Pos)
	for _, rows := range x.State.Tables {
		b = appendEach(b, rows, appendRow)
	}
	return appendEach(b, x.Last, appendDone)
}

func appendRow(b []byte, r []api.Value) []byte {
	s, _ := row.Encode(r...)
	return appendText(b, s)
}

func appendDone(b []byte, d api.Done) []byte {
	b = appendNumber(appendNumber(appendNumber(b, d.Client), d.Seq), d.Pos)
	b = appendNumber(appendNumber(b, int(d.Reply.Code)), d.Reply.At)
	return appendEach(b, d.Reply.Results, appendResult)
}

func appendResult(b []byte, r api.Result) []byte {
	return appendEach(appendNumber(b, r.Count), r.Rows, appendRow)
}

// reader goes along the bytes of a snapshot. Where they are none it takes less than they say, so that it ends soon on whatever it is given.
type reader struct{ rest string }

// upTo reads a number; of a greater one it tells the most.
func (r *reader) upTo(most int) int {
	var n uint64
	for i := range len(r.rest) {
		digit := r.rest[i]
		n |= uint64(digit%goesOn) << (i * digitBits)
		if digit < goesOn {
			r.rest = r.rest[i+1:]
			return int(min(n, uint64(most)))
		}
	}
	r.rest = ""
	return 0
}

func (r *reader) number() int { return r.upTo(api.MaxInt) }

// count reads how many there are of something, each of which has a byte at least.
func (r *reader) count() int {
	// In a statement of its own: reading the number shortens the rest.
	n := r.number()
	return min(n, len(r.rest))
}

func (r *reader) text() string {
	end := r.count()
	s := r.rest[:end]
	r.rest = r.rest[end:]
	return s
}

// readEach reads how many there are, and each of them.
func readEach[T any](r *reader, one func(*reader) T) []T {
	var l []T
	for range r.count() {
		l = append(l, one(r))
	}
	return l
}

// readBy reads a text that another layer's bytes are; of a text that is none it tells nothing.
func readBy[T any](r *reader, decode func(string) (T, api.Errno)) T {
	x, _ := decode(r.text())
	return x
}

func readSnap(r *reader) api.Snap {
	x := api.Snap{Catalog: readBy(r, catalog.Decode)}
	x.Pos = r.number()
	for range x.Catalog.Tables {
		x.State.Tables = append(x.State.Tables, readEach(r, readRow))
	}
	x.Last = readEach(r, readDone)
	return x
}

func readRow(r *reader) []api.Value { return readBy(r, row.Decode) }

func readDone(r *reader) api.Done {
	d := api.Done{Client: r.number()}
	d.Seq = r.number()
	d.Pos = r.number()
	d.Reply.Code = api.Errno(r.number())
	d.Reply.At = r.number()
	d.Reply.Results = readEach(r, readResult)
	return d
}

func readResult(r *reader) api.Result {
	x := api.Result{Count: r.number()}
	x.Rows = readEach(r, readRow)
	return x
}
