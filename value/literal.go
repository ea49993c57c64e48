package value

import (
	"strconv"
	"strings"

	"unison/api"
)

const (
	mark      = '\''
	backslash = '\\'
	hexDigits = "0123456789abcdef"
)

// Print tells a value as a literal.
func Print(v api.Value) (string, api.Errno) {
	if !Right(v) {
		return "", api.ErrValue
	}
	switch v.Kind {
	case api.Int:
		return strconv.Itoa(v.Int), api.OK
	case api.Bool:
		if v.Int == 1 {
			return "TRUE", api.OK
		}
		return "FALSE", api.OK
	case api.Text:
		return quote(v.Text), api.OK
	}
	return "NULL", api.OK
}

func quote(s string) string {
	out := []byte{mark}
	for i := range len(s) {
		out = appendQuoted(out, s[i])
	}
	return string(append(out, mark))
}

func appendQuoted(out []byte, c byte) []byte {
	switch {
	case c == mark:
		return append(out, mark, mark)
	case c == backslash || c < 32 || c > 126:
		return append(out, backslash, hexDigits[c>>4], hexDigits[c&15])
	}
	return append(out, c)
}

// Parse reads one. A value has one literal alone: what can be read, but is written otherwise (-0, 007, '\41'), is none.
func Parse(s string) (api.Value, api.Errno) {
	v, ok := read(s)
	if !ok {
		return null(), api.ErrValue
	}
	if p, e := Print(v); e != api.OK || p != s {
		return null(), api.ErrValue
	}
	return v, api.OK
}

// read takes more than literals: Parse holds what it tells against Print.
func read(s string) (api.Value, bool) {
	switch s {
	case "NULL":
		return null(), true
	case "TRUE":
		return truth(true), true
	case "FALSE":
		return truth(false), true
	}
	if body, ok := unmarked(s); ok {
		t, ok := unquote(body)
		return text(t), ok
	}
	n, err := strconv.Atoi(s)
	return number(n), err == nil
}

// unmarked tells what stands between two marks; one mark is not both.
func unmarked(s string) (string, bool) {
	if len(s) < 2 || s[0] != mark || s[len(s)-1] != mark {
		return "", false
	}
	return s[1 : len(s)-1], true
}

// unquote tells the bytes of which quote makes what stands between the marks.
func unquote(body string) (string, bool) {
	var out []byte
	for i := 0; i < len(body); i++ {
		c := body[i]
		switch {
		case c == mark && strings.HasPrefix(body[i+1:], "'"):
			i++
		case c == mark:
			return "", false
		case c == backslash:
			b, ok := hexByte(body[i+1:])
			if !ok {
				return "", false
			}
			c = b
			i += 2
		}
		out = append(out, c)
	}
	return string(out), true
}

// hexByte reads the two digits at the beginning.
func hexByte(s string) (byte, bool) {
	if len(s) < 2 {
		return 0, false
	}
	high, low := strings.IndexByte(hexDigits, s[0]), strings.IndexByte(hexDigits, s[1])
	if high < 0 || low < 0 {
		return 0, false
	}
	return byte(high<<4 | low), true
}
