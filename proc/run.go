package proc

import (
	"slices"

	"unison/api"
	"unison/catalog"
	"unison/denote"
	"unison/exec"
	"unison/table"
)

// Run is a call under way. Its work is begun by its first step, so that nothing that is done to the store ahead of that ends it.
type Run struct {
	book  *Book
	store *table.Store
	proc  procedure
	args  []api.Value
	work  *table.Work
	told  bill
	over  bool
	reply api.Reply
}

// Begin begins one.
func (b *Book) Begin(s *table.Store, c api.Call) *Run {
	if s == nil || !b.defines(s.Catalog()) {
		return nil
	}
	p, e := b.admitted(c)
	if e != api.OK {
		return &Run{over: true, reply: api.Reply{Code: e}}
	}
	return &Run{book: b, store: s, proc: p, args: copyRow(c.Args)}
}

// defines tells whether a catalog is the book's.
func (b *Book) defines(c api.Catalog) bool {
	bytes, e := catalog.Encode(c)
	return e == api.OK && bytes == b.bytes
}

// Step does its next statement; true: it is over.
func (r *Run) Step() bool {
	if !r.over {
		r.next()
	}
	return r.over
}

// next does the next statement. If that fails, all that the run has changed is taken back, whatever it was that failed.
func (r *Run) next() {
	work, at := r.begun(), len(r.told.results)
	failed := api.OK
	defer func() {
		if failed != api.OK {
			work.Undo()
			r.end(api.Reply{Code: failed, At: at})
		}
	}()
	if at < len(r.proc.plans) {
		failed = r.statement(work, r.proc.plans[at])
	}
	if failed == api.OK && len(r.told.results) == len(r.proc.plans) {
		work.Done()
		r.end(api.Reply{Results: r.told.results})
	}
}

// begun is the run's work.
func (r *Run) begun() *table.Work {
	if r.work == nil {
		r.work = r.store.Begin()
	}
	return r.work
}

// statement runs a plan over the store as it is now, and keeps what it tells.
func (r *Run) statement(w *table.Work, p api.Plan) api.Errno {
	if !r.book.mayStand(r.store) {
		return api.ErrState
	}
	result, e := exec.Run(w, r.proc.def.Params, p, r.args...)
	if e != api.OK {
		return e
	}
	return r.told.charge(result, r.proc.def)
}

// mayStand tells whether the rows of a store are a right state. Works that were undone by turns may have left some that meet in an index; nothing else can be wrong, so that only where an index is Unique the rows are looked at.
func (b *Book) mayStand(s *table.Store) bool {
	meet := slices.ContainsFunc(b.catalog.Tables, func(t api.Table) bool {
		return slices.ContainsFunc(t.Indexes, func(x api.Index) bool { return x.Unique })
	})
	return !meet || denote.Right(b.catalog, s.State())
}

// Reply is what it has told; false: it is not over.
func (r *Run) Reply() (api.Reply, bool) {
	if !r.over {
		return api.Reply{}, false
	}
	return copyReply(r.reply), true
}

// Cancel takes back what it has done, if it is not over.
func (r *Run) Cancel() {
	if r.over {
		return
	}
	r.begun().Undo()
	r.end(api.Reply{Code: api.ErrArg})
}

// end ends the run: of all that it had, its reply alone is kept.
func (r *Run) end(reply api.Reply) { *r = Run{over: true, reply: reply} }
