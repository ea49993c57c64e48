package catalog

import (
	"slices"
	"strings"

	"unison/api"
)

// What is answered shares no memory with what was handed in, so that texts and lists are copied down to their bytes.

func copyCatalog(c api.Catalog) api.Catalog {
	return api.Catalog{Tables: copyEach(c.Tables, copyTable), Procs: copyEach(c.Procs, copyProc)}
}

func copyTable(t api.Table) api.Table {
	t.Name = strings.Clone(t.Name)
	t.Columns = copyEach(t.Columns, copyColumn)
	t.Key = slices.Clone(t.Key)
	t.Indexes = copyEach(t.Indexes, copyIndex)
	return t
}

func copyColumn(c api.Column) api.Column {
	c.Name = strings.Clone(c.Name)
	return c
}

func copyIndex(x api.Index) api.Index {
	x.Name = strings.Clone(x.Name)
	x.Columns = slices.Clone(x.Columns)
	return x
}

func copyProc(p api.Proc) api.Proc {
	p.Name = strings.Clone(p.Name)
	p.Params = copyEach(p.Params, copyParam)
	p.Body = copyEach(p.Body, strings.Clone)
	return p
}

func copyParam(p api.Param) api.Param {
	p.Name = strings.Clone(p.Name)
	return p
}

func copyEach[T any](l []T, one func(T) T) []T {
	var out []T
	for _, x := range l {
		out = append(out, one(x))
	}
	return out
}
