package prints

import (
	"slices"

	"unison/api"
	"unison/key"
)

// reader tells a term's value, if it is known ahead of all rows.
type reader func(t api.Term) (api.Value, bool)

// over reads terms of admitted arguments.
func over(args []api.Value) reader {
	return func(t api.Term) (api.Value, bool) {
		switch t.Op {
		case api.ExprValue:
			return t.Value, true
		case api.ExprParam:
			return args[t.Num], true
		}
		return api.Value{}, false
	}
}

// all are the values of terms; false: one is not known.
func (known reader) all(terms []api.Term) ([]api.Value, bool) {
	var l []api.Value
	for _, t := range terms {
		v, ok := known(t)
		if !ok {
			return nil, false
		}
		l = append(l, v)
	}
	return l, true
}

// reach is the lock of an access: of its range, or of the whole, if it says none. There is none, if the range has no text.
func (c call) reach(a api.Access, write bool) []api.Lock {
	values, ok := c.known.all(slices.Concat(a.Fixed, a.Low, a.High))
	if a.Way != api.WayKey || !ok {
		return whole(a.Table, write)
	}
	if slices.Contains(values, api.Value{}) {
		return nil
	}
	lo, hi := span(a, values)
	if hi != "" && hi <= lo {
		return nil
	}
	return []api.Lock{{Table: a.Table, Lo: lo, Hi: hi, Write: write}}
}

// span are the texts from which on, and below which, an access's keys are, if these are the values of its Fixed, Low and High.
func span(a api.Access, values []api.Value) (lo, hi string) {
	fixed, bounds := values[:len(a.Fixed)], values[len(a.Fixed):]
	lo = encode(fixed)
	hi = next(lo)
	if len(a.Low) > 0 {
		lo = encode(fixed, bounds[:1])
		if a.LowOpen {
			lo = next(lo)
		}
	}
	if len(a.High) > 0 {
		hi = encode(fixed, bounds[len(a.Low):])
		if !a.HighOpen {
			hi = next(hi)
		}
	}
	return lo, hi
}

// whole is the lock of all keys of a table: no key's first byte is less than 1.
func whole(table int, write bool) []api.Lock {
	return []api.Lock{{Table: table, Lo: "\x01", Write: write}}
}

// encode is the key of right values, no more than a key may have: an access holds no more columns against values.
func encode(l ...[]api.Value) string {
	s, _ := key.Encode(slices.Concat(l...)...)
	return s
}

// next is the end of the texts that begin with one; empty: there is none.
func next(s string) string {
	s, _ = key.Next(s)
	return s
}
