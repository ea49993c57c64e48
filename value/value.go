// Package value is layer 1: what stands in a column, what holds of two such values, how they are reckoned with and in which order they stand. See shared/doc/01-value.md.
package value

import (
	"cmp"

	"unison/api"
)

// Right tells whether a value is.
func Right(v api.Value) bool {
	switch v.Kind {
	case api.Null:
		return v.Int == 0 && v.Text == ""
	case api.Int:
		return inRange(v.Int) && v.Text == ""
	case api.Bool:
		return (v.Int == 0 || v.Int == 1) && v.Text == ""
	case api.Text:
		return v.Int == 0 && len(v.Text) <= api.MaxText
	}
	return false
}

// Order tells which of two stands ahead: -1 the first one, 1 the second one; 0: they are the same.
func Order(a, b api.Value) int {
	return cmp.Or(cmp.Compare(a.Kind, b.Kind), cmp.Compare(a.Int, b.Int), cmp.Compare(a.Text, b.Text))
}

// Compare tells whether something holds of two.
func Compare(op int, a, b api.Value) (api.Value, api.Errno) {
	switch {
	case op < api.CmpEq || op > api.CmpGe:
		return null(), api.ErrArg
	case !Right(a) || !Right(b):
		return null(), api.ErrValue
	case a.Kind == api.Null || b.Kind == api.Null:
		return null(), api.OK
	case a.Kind != b.Kind:
		return null(), api.ErrType
	}
	return truth(holds(op, Order(a, b))), api.OK
}

// holds tells whether a comparison is met by two values that stand so.
func holds(op, order int) bool {
	switch op {
	case api.CmpEq:
		return order == 0
	case api.CmpNe:
		return order != 0
	case api.CmpLt:
		return order < 0
	case api.CmpLe:
		return order <= 0
	case api.CmpGt:
		return order > 0
	}
	return order >= 0
}

// admit goes through all values for ErrValue before it looks at a type: which error is told must not hang on the order of the values.
func admit(kind int, l ...api.Value) api.Errno {
	for _, v := range l {
		if !Right(v) {
			return api.ErrValue
		}
	}
	for _, v := range l {
		if v.Kind != kind && v.Kind != api.Null {
			return api.ErrType
		}
	}
	return api.OK
}

func null() api.Value { return api.Value{} }

func number(n int) api.Value { return api.Value{Kind: api.Int, Int: n} }

func text(s string) api.Value { return api.Value{Kind: api.Text, Text: s} }

func truth(yes bool) api.Value {
	if yes {
		return api.Value{Kind: api.Bool, Int: 1}
	}
	return api.Value{Kind: api.Bool}
}
