package snap

import (
	"unison/api"
	"unison/denote"
	"unison/row"
)

// What a snapshot may be up to: its place has as many digits as its file's name has room for.
const (
	maxPos  = 99_999_999_999
	maxCode = 999
)

// mayBe tells whether a snapshot may be.
func mayBe(x api.Snap) bool {
	return within(x.Pos, 0, maxPos) && denote.Right(x.Catalog, x.State) && mayBeLast(x.Last, x.Pos)
}

// mayBeLast tells whether clients' last calls may be those of a snapshot of a place. As they rise, there are no more than there are clients.
func mayBeLast(l []api.Done, pos int) bool {
	before := 0
	return every(l, func(d api.Done) bool {
		rises := within(d.Client, before+1, api.MaxClients)
		before = d.Client
		return rises && within(d.Seq, 1, api.MaxInt) && within(d.Pos, 0, pos-1) && mayBeReply(d.Reply)
	})
}

func mayBeReply(r api.Reply) bool {
	if r.Code == api.OK {
		return r.At == 0 && len(r.Results) <= api.MaxBody && every(r.Results, mayBeResult)
	}
	return within(int(r.Code), 1, maxCode) && within(r.At, 0, api.MaxBody-1) && len(r.Results) == 0
}

func mayBeResult(r api.Result) bool {
	return within(r.Count, 0, api.MaxInt) && every(r.Rows, mayBeRow)
}

// mayBeRow tells whether a row has bytes.
func mayBeRow(r []api.Value) bool {
	_, e := row.Size(r...)
	return e == api.OK
}

// within tells whether a number is one of those from the least to the most.
func within(n, least, most int) bool { return least <= n && n <= most }

func every[T any](l []T, holds func(T) bool) bool {
	for _, x := range l {
		if !holds(x) {
			return false
		}
	}
	return true
}
