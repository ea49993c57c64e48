package proc

import (
	"strings"

	"unison/api"
	"unison/row"
)

// bill is what the statements of a call have told so far, and what that weighs.
type bill struct {
	results     []api.Result
	rows, bytes int
}

// charge puts a statement's result behind those that there are, and tells whether the procedure's budget is enough for all.
func (b *bill) charge(r api.Result, p api.Proc) api.Errno {
	b.results = append(b.results, r)
	b.rows += len(r.Rows) + r.Count
	for _, l := range r.Rows {
		size, _ := row.Size(l...)
		b.bytes += size
	}
	if b.rows > p.Rows || b.bytes > p.Bytes {
		return api.ErrBudget
	}
	return api.OK
}

func copyReply(r api.Reply) api.Reply {
	var l []api.Result
	for _, x := range r.Results {
		l = append(l, api.Result{Rows: copyRows(x.Rows), Count: x.Count})
	}
	r.Results = l
	return r
}

func copyState(s api.State) api.State {
	var out api.State
	for _, rows := range s.Tables {
		out.Tables = append(out.Tables, copyRows(rows))
	}
	return out
}

func copyRows(rows [][]api.Value) [][]api.Value {
	var out [][]api.Value
	for _, l := range rows {
		out = append(out, copyRow(l))
	}
	return out
}

// copyRow is values whose texts are in memory of their own.
func copyRow(l []api.Value) []api.Value {
	var out []api.Value
	for _, v := range l {
		v.Text = strings.Clone(v.Text)
		out = append(out, v)
	}
	return out
}
