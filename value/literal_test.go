package value_test

import (
	"regexp"
	"strings"
	"testing"

	"unison/api"
	"unison/value"
)

// literal says which texts are literals, but for how great a number and how long a text may be.
var literal = regexp.MustCompile(`^(NULL|TRUE|FALSE|0|-?[1-9][0-9]*|'([ -&(-\[\]-~]|''|\\([01][0-9a-f]|5c|7f|[89a-f][0-9a-f]))*')$`)

func wantPrint(t *testing.T, v api.Value, want string, code api.Errno) {
	t.Helper()
	if s, e := value.Print(v); s != want || e != code {
		t.Errorf("Print(%#v) = %q, %d; want %q, %d", v, s, e, want, code)
	}
}

func wantParse(t *testing.T, s string, want api.Value, code api.Errno) {
	t.Helper()
	if v, e := value.Parse(s); v != want || e != code {
		t.Errorf("Parse(%q) = %#v, %d; want %#v, %d", s, v, e, want, code)
	}
}

func TestU7Literals(t *testing.T) {
	for _, c := range []struct {
		v api.Value
		s string
	}{
		{null, "NULL"}, {yes, "TRUE"}, {no, "FALSE"},
		{num(0), "0"}, {num(12), "12"}, {num(-12), "-12"}, {num(100), "100"},
		{num(most), "4611686018427387904"}, {num(-most), "-4611686018427387904"},
		{text(""), "''"}, {text("'"), "''''"}, {text("''"), "''''''"}, {text("a b"), "'a b'"}, {text("NULL"), "'NULL'"},
		{text("it's\n\\"), `'it''s\0a\5c'`}, {text("\x00\x1f \x7e\x7f\x80\xff"), `'\00\1f ~\7f\80\ff'`}, {text("é"), `'\c3\a9'`}, {text(`\41`), `'\5c41'`},
		{text(strings.Repeat("a", 64)), "'" + strings.Repeat("a", 64) + "'"},
		{text(strings.Repeat("'", 64)), "'" + strings.Repeat("''", 64) + "'"},
		{text(strings.Repeat("\xab", 64)), "'" + strings.Repeat(`\ab`, 64) + "'"},
	} {
		wantPrint(t, c.v, c.s, api.OK)
		wantParse(t, c.s, c.v, api.OK)
	}
}

func TestU7EveryByte(t *testing.T) {
	const digits = "0123456789abcdef"
	for c := range 256 {
		b := string([]byte{byte(c)})
		want := b
		if b == "'" {
			want = "''"
		} else if b == `\` || c < 32 || c > 126 {
			want = `\` + digits[c/16:c/16+1] + digits[c%16:c%16+1]
		}
		wantPrint(t, text("a"+b+"b"), "'a"+want+"b'", api.OK)
		wantParse(t, "'a"+want+"b'", text("a"+b+"b"), api.OK)
		if want != b {
			wantParse(t, "'a"+b+"b'", null, api.ErrValue)
		}
		escaped := `\` + digits[c/16:c/16+1] + digits[c%16:c%16+1]
		if want != escaped {
			wantParse(t, "'a"+escaped+"b'", null, api.ErrValue)
		}
	}
}

func TestU7WrongLiterals(t *testing.T) {
	for _, w := range wrongValues() {
		wantPrint(t, w, "", api.ErrValue)
	}
	for _, s := range []string{
		"", " ", "null", "Null", "NULL ", " NULL", "NUL", "NULLNULL", "true", "True", "TRUE\x00", "false", "FALS",
		"-0", "+1", "007", "01", "-01", "--1", "-", "1-", "1 ", " 1", "1.0", "1e3", "0x1", "1_0", "a", "１",
		"4611686018427387905", "-4611686018427387905", "9223372036854775807", "-9223372036854775808", "9223372036854775808", "18446744073709551616", "99999999999999999999",
		"'", "'''", "'a", "a'", "'a''", "''a'", "'a'b'", "'a' ", " 'a'", "'a''b", `"a"`,
		`'\'`, `'\0'`, `'\a'`, `'\41'`, `'\0A'`, `'\FF'`, `'\g0'`, `'\0g'`, `'\''`, `'\27'`, `'\20'`, `'\7e'`, `'\\'`, `'\n'`, `'\ 0a'`, "'\n'", "'\x7f'", "'é'",
		"'" + strings.Repeat("a", 65) + "'", "'" + strings.Repeat("''", 65) + "'", "'" + strings.Repeat(`\00`, 65) + "'",
		strings.Repeat("'", 10001), strings.Repeat("1", 10000),
	} {
		wantParse(t, s, null, api.ErrValue)
	}
}

// TestU7ShortTexts goes through all texts of a few bytes that matter: just the literals among them are taken, and printed again as they were.
func TestU7ShortTexts(t *testing.T) {
	const letters = `'\-01acC7`
	texts := []string{""}
	for first, length := 0, 0; length < 6; length++ {
		last := len(texts)
		for ; first < last; first++ {
			for i := range letters {
				texts = append(texts, texts[first]+letters[i:i+1])
			}
		}
	}
	for _, s := range texts {
		v, e := value.Parse(s)
		if literal.MatchString(s) {
			if p, _ := value.Print(v); e != api.OK || p != s {
				t.Fatalf("Parse(%q) = %#v, %d", s, v, e)
			}
		} else if e != api.ErrValue || v != null {
			t.Fatalf("Parse(%q) = %#v, %d; want ErrValue", s, v, e)
		}
	}
}

func FuzzU7Parse(f *testing.F) {
	for _, s := range []string{"NULL", "-12", `'it''s\0a\5c'`, "'''", "-0"} {
		f.Add(s)
	}
	f.Fuzz(func(t *testing.T, s string) {
		v, e := value.Parse(s)
		p, pe := value.Print(v)
		if e == api.OK && (p != s || pe != api.OK || !literal.MatchString(s)) {
			t.Errorf("Parse(%q) = %#v, which is printed as %q", s, v, p)
		}
		if e != api.OK && (e != api.ErrValue || v != null) {
			t.Errorf("Parse(%q) = %#v, %d", s, v, e)
		}
	})
}
