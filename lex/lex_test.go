package lex_test

import (
	"fmt"
	"slices"
	"strings"
	"testing"

	"unison/api"
	"unison/lex"
)

func number(at, n int) api.Token { return api.Token{Kind: api.TokNumber, Num: n, At: at} }

func name(at int, s string) api.Token { return api.Token{Kind: api.TokName, Text: s, At: at} }

func word(at int, s string) api.Token { return api.Token{Kind: api.TokWord, Text: s, At: at} }

func text(at int, s string) api.Token { return api.Token{Kind: api.TokText, Text: s, At: at} }

func param(at int, s string) api.Token { return api.Token{Kind: api.TokParam, Text: s, At: at} }

func sign(at int, s string) api.Token { return api.Token{Kind: api.TokSign, Text: s, At: at} }

func end(at int) api.Token { return api.Token{Kind: api.TokEnd, At: at} }

// mustScan holds a source's tokens against those that are wanted.
func mustScan(t *testing.T, s string, want ...api.Token) {
	t.Helper()
	if l, at, e := lex.Scan(s); !slices.Equal(l, want) || at != 0 || e != api.OK {
		t.Errorf("Scan(%q) = %v, %d, %d; want %v", s, l, at, e, want)
	}
}

// mustFail holds what is wrong with a source, and where, against what is wanted.
func mustFail(t *testing.T, s string, wantAt int, want api.Errno) {
	t.Helper()
	if l, at, e := lex.Scan(s); len(l) != 0 || at != wantAt || e != want {
		t.Errorf("Scan(%q) = %v, %d, %d; want none, %d, %d", s, l, at, e, wantAt, want)
	}
}

func TestExamples(t *testing.T) {
	mustScan(t, "SELECT a1 -- x", word(0, "SELECT"), name(7, "a1"), end(14))
	mustScan(t, "a<=:p", name(0, "a"), sign(1, "<="), param(3, "p"), end(5))
	mustScan(t, "'it''s' 12", text(0, "it's"), number(8, 12), end(10))
	mustScan(t, "a-1", name(0, "a"), sign(1, "-"), number(2, 1), end(3))
	mustScan(t, "a--1", name(0, "a"), end(4))
	mustScan(t, "", end(0))
	for _, s := range []string{"a 07", "a 7a", "a 4611686018427387905"} {
		mustFail(t, s, 2, api.ErrLexNumber)
	}
	mustScan(t, "a 4611686018427387904", name(0, "a"), number(2, 1<<62), end(21))
	mustScan(t, "select1_", name(0, "select1_"), end(8))
	for _, s := range []string{"Select", ":A", ": a", "_a"} {
		mustFail(t, s, 0, api.ErrLexName)
	}
	mustFail(t, "a 'b", 2, api.ErrLexText)
	mustFail(t, "'a\n'", 0, api.ErrLexText)
	mustFail(t, "a ! b", 2, api.ErrLexByte)
	mustFail(t, "a : 1", 2, api.ErrLexName)
}

func TestP101AStatement(t *testing.T) {
	mustScan(t, "UPDATE t SET b = (b + 1) % :n WHERE t.a >= 10 AND b <> 'x'; -- all",
		word(0, "UPDATE"), name(7, "t"), word(9, "SET"), name(13, "b"), sign(15, "="), sign(17, "("), name(18, "b"), sign(20, "+"), number(22, 1), sign(23, ")"),
		sign(25, "%"), param(27, "n"), word(30, "WHERE"), name(36, "t"), sign(37, "."), name(38, "a"), sign(40, ">="), number(43, 10), word(46, "AND"),
		name(50, "b"), sign(52, "<>"), text(55, "x"), sign(58, ";"), end(66))
}

// A source of MaxSource bytes is taken, and looked at; of one that is longer nothing else is said.
func TestP101Long(t *testing.T) {
	mustScan(t, strings.Repeat(" ", 1000), end(1000))
	mustScan(t, strings.Repeat("1 ", 499)+"ab", append(slices.Collect(func(yield func(api.Token) bool) {
		for i := range 499 {
			yield(number(2*i, 1))
		}
	}), name(998, "ab"), end(1000))...)
	mustScan(t, "a--"+strings.Repeat("'", 997), name(0, "a"), end(1000))
	mustFail(t, strings.Repeat("(", 999)+"!", 999, api.ErrLexByte)
	for _, s := range []string{strings.Repeat(" ", 1001), strings.Repeat("!", 1001), "'" + strings.Repeat("a", 1000), strings.Repeat("7", 1001), "Select" + strings.Repeat("a", 1000), strings.Repeat("-", 5000)} {
		mustFail(t, s, 0, api.ErrLong)
	}
}

func TestP101Blanks(t *testing.T) {
	mustScan(t, " \t\na\t\n b\n", name(3, "a"), name(7, "b"), end(9))
	for _, c := range []string{"\r", "\v", "\f", "\x00", "\x1f", "\x7f", "\u00a0", "\u0085", "\xff"} {
		mustFail(t, "a"+c+"b", 1, api.ErrLexByte)
	}
}

// A remark has whatever bytes up to the next byte 10 alone, or to the end.
func TestP101Remarks(t *testing.T) {
	mustScan(t, "--", end(2))
	mustScan(t, "--a\n", end(4))
	mustScan(t, "a--\nb", name(0, "a"), name(4, "b"), end(5))
	mustScan(t, "1--\n2", number(0, 1), number(4, 2), end(5))
	mustScan(t, "a ---- 'b\n--\n--c\n'd'", name(0, "a"), text(17, "d"), end(20))
	mustScan(t, "a -- 07 Select ! \xff\x00\r 'b\nc", name(0, "a"), name(24, "c"), end(25))
	mustScan(t, "--\r1\n2", number(5, 2), end(6))
	mustScan(t, "- -", sign(0, "-"), sign(2, "-"), end(3))
	mustScan(t, "---1\n-", sign(5, "-"), end(6))
	mustScan(t, "<--\n=", sign(0, "<"), sign(4, "="), end(5))
	mustScan(t, "'--' '\\0a'--", text(0, "--"), text(5, "\n"), end(12))
	mustFail(t, ":--\na", 0, api.ErrLexName)
}

func TestP101Numbers(t *testing.T) {
	for s, n := range map[string]int{"0": 0, "1": 1, "9": 9, "10": 10, "4611686018427387903": 1<<62 - 1, "4611686018427387904": 1 << 62} {
		mustScan(t, s, number(0, n), end(len(s)))
		mustScan(t, "-"+s+",", sign(0, "-"), number(1, n), sign(1+len(s), ","), end(2+len(s)))
	}
	for _, s := range []string{"00", "01", "007", "1a", "1A", "1_", "1_0", "0x1", "1e5", "4611686018427387905", "9223372036854775807", "9223372036854775808", "18446744073709551617", "10000000000000000000000"} {
		mustFail(t, s, 0, api.ErrLexNumber)
		mustFail(t, "( "+s+" )", 2, api.ErrLexNumber)
	}
	mustScan(t, "1.5", number(0, 1), sign(1, "."), number(2, 5), end(3))
	mustScan(t, "1:a2'b'3", number(0, 1), param(1, "a2"), text(4, "b"), number(7, 3), end(8))
}

func TestP101NamesAndWords(t *testing.T) {
	long := "a" + strings.Repeat("z", 15)
	for _, s := range []string{"a", "z", "a_", "a9", "z__0", "select", "max", "null", long} {
		mustScan(t, s, name(0, s), end(len(s)))
		mustScan(t, "+"+s+"+", sign(0, "+"), name(1, s), sign(1+len(s), "+"), end(2+len(s)))
	}
	for _, s := range words() {
		mustScan(t, s, word(0, s), end(len(s)))
		mustScan(t, "("+s+")", sign(0, "("), word(1, s), sign(1+len(s), ")"), end(2+len(s)))
	}
	for _, s := range []string{"A", "Z", "_", "__", "_a", "_1", "aB", "Ab", "SELECT1", "SELECTa", "SELECT_", "SELEC", "ANDOR", "Null", "ASC", "AS", "HAVING", long + "z", "MAXMIN"} {
		mustFail(t, s, 0, api.ErrLexName)
		mustFail(t, "1 , "+s, 4, api.ErrLexName)
	}
	mustFail(t, "caf\u00e9", 3, api.ErrLexByte)
	mustScan(t, "a.b", name(0, "a"), sign(1, "."), name(2, "b"), end(3))
}

// What is wrong with a parameter is told at its colon.
func TestP101Params(t *testing.T) {
	long := "p" + strings.Repeat("0", 15)
	for _, s := range []string{"a", "z9_", "select", long} {
		mustScan(t, ":"+s, param(0, s), end(1+len(s)))
	}
	mustScan(t, ":a:b", param(0, "a"), param(2, "b"), end(4))
	mustScan(t, "1=:a.b", number(0, 1), sign(1, "="), param(2, "a"), sign(4, "."), name(5, "b"), end(6))
	for _, s := range []string{"", "A", "1", "1a", "_", "_a", "aB", "SELECT", long + "0", " a", "\na", "--\na", ":a", "'a'", "(", "!", "\xff"} {
		mustFail(t, ":"+s, 0, api.ErrLexName)
		mustFail(t, "1 , :"+s, 4, api.ErrLexName)
	}
}

func TestP101Texts(t *testing.T) {
	for s, says := range map[string]string{
		"''": "", "''''": "'", "''''''": "''", "'a'": "a", "'a''b'": "a'b", "'''a'": "'a", "'a'''": "a'", "'--'": "--", "' '": " ", "':a'": ":a", "'~'": "~",
		`'\0a\00\ff\7f\5c'`: "\n\x00\xff\x7f\\", `'\5c''\5c'`: `\'\`, `'"'`: `"`,
		"'" + strings.Repeat("a", 64) + "'": strings.Repeat("a", 64), "'" + strings.Repeat("''", 64) + "'": strings.Repeat("'", 64), "'" + strings.Repeat(`\00`, 64) + "'": strings.Repeat("\x00", 64),
	} {
		mustScan(t, s, text(0, says), end(len(s)))
		mustScan(t, "a"+s+"b", name(0, "a"), text(1, says), name(1+len(s), "b"), end(2+len(s)))
	}
	for _, s := range []string{
		"'", "'''", "'a", "'a''", "'a'' b", "'''''", "'a--", "'\n'", "'a\tb'", "'\x7f'", "'\u00e9'", "'\xff'", "'\x00'",
		`'\'`, `'\`, `'\0'`, `'\0A'`, `'\41'`, `'\27'`, `'\n'`, `'\\'`, `'\''`, "'" + strings.Repeat("a", 65) + "'", "'" + strings.Repeat("''", 65) + "'",
	} {
		mustFail(t, s, 0, api.ErrLexText)
		mustFail(t, "a <= "+s, 5, api.ErrLexText)
	}
	mustScan(t, "'' ''", text(0, ""), text(3, ""), end(5))
	mustFail(t, "'a'b'", 4, api.ErrLexText)
}

func TestP101Signs(t *testing.T) {
	for _, s := range strings.Fields("; , ( ) . * + - / % = < > <> <= >=") {
		mustScan(t, s, sign(0, s), end(len(s)))
		mustScan(t, "a"+s+"1", name(0, "a"), sign(1, s), number(1+len(s), 1), end(2+len(s)))
	}
	for s, pieces := range map[string]string{
		"<<=": "< <=", "<=>": "<= >", "<>=": "<> =", "><": "> <", "=<": "= <", "=>": "= >", ">>=": "> >=", "<=>=": "<= >=", "==": "= =", ">=<": ">= <", "<>>": "<> >", "<<>>": "< <> >",
		"**": "* *", "();": "( ) ;", "+-": "+ -", "-+-": "- + -", "..": ". .", "<-": "< -", "-=": "- =", "-/-": "- / -", "/*": "/ *",
	} {
		var want []api.Token
		at := 0
		for _, x := range strings.Fields(pieces) {
			want = append(want, sign(at, x))
			at += len(x)
		}
		mustScan(t, s, append(want, end(at))...)
	}
	mustScan(t, "< = < > > =", sign(0, "<"), sign(2, "="), sign(4, "<"), sign(6, ">"), sign(8, ">"), sign(10, "="), end(11))
}

// Each byte by itself.
func TestP101Bytes(t *testing.T) {
	for c := range 256 {
		s := string([]byte{byte(c)})
		switch {
		case strings.Contains(" \t\n", s):
			mustScan(t, s, end(1))
		case c >= '0' && c <= '9':
			mustScan(t, s, number(0, c-'0'), end(1))
		case c >= 'a' && c <= 'z':
			mustScan(t, s, name(0, s), end(1))
		case c >= 'A' && c <= 'Z' || c == '_' || c == ':':
			mustFail(t, s, 0, api.ErrLexName)
		case c == '\'':
			mustFail(t, s, 0, api.ErrLexText)
		case strings.Contains(";,().*+-/%=<>", s):
			mustScan(t, s, sign(0, s), end(1))
		default:
			mustFail(t, s, 0, api.ErrLexByte)
		}
	}
}

// The first of several that are wrong is told, from the left, whatever they are.
func TestP101TheFirstThatIsWrong(t *testing.T) {
	wrong := map[string]api.Errno{"07": api.ErrLexNumber, "Ab": api.ErrLexName, ":": api.ErrLexName, "'\n'": api.ErrLexText, "#": api.ErrLexByte}
	for one, e := range wrong {
		for other := range wrong {
			mustFail(t, fmt.Sprintf("a %s %s", one, other), 2, e)
		}
	}
	mustFail(t, "07!", 0, api.ErrLexNumber)
	mustFail(t, "!07", 0, api.ErrLexByte)
	mustFail(t, "Ab'", 0, api.ErrLexName)
	mustFail(t, "ab'", 2, api.ErrLexText)
	mustFail(t, "'\n' 'a", 0, api.ErrLexText)
}

func words() []string {
	return strings.Fields("SELECT INSERT INTO VALUES UPDATE SET DELETE FROM JOIN ON WHERE GROUP ORDER BY DESC LIMIT AND OR NOT IS NULL TRUE FALSE COUNT SUM MIN MAX")
}

func mustBe(t *testing.T, s string, isName, isWord bool) {
	t.Helper()
	if n, w := lex.IsName(s), lex.IsWord(s); n != isName || w != isWord {
		t.Errorf("%q: IsName %v, IsWord %v; want %v, %v", s, n, w, isName, isWord)
	}
}

func TestP102Names(t *testing.T) {
	for _, s := range []string{"a", "z", "a0", "a9", "a_", "z_z", "go_1", "select1_", "limit", "abcdefghijklmnop", "a_______________"} {
		mustBe(t, s, true, false)
	}
	for _, s := range []string{"", "A", "_", "0", "_a", "0a", "aA", "a b", " a", "a ", "a-", "a.b", ":a", "'a'", "a\x00", "a\n", "\u00e4", "a\u00e4", "\xff", "abcdefghijklmnopq", strings.Repeat("a", 100000)} {
		mustBe(t, s, false, false)
	}
}

func TestP102EachByteOfAName(t *testing.T) {
	for c := range 256 {
		small := c >= 'a' && c <= 'z'
		mustBe(t, string([]byte{byte(c)}), small, false)
		for _, around := range [][2]string{{"a", ""}, {"a", "z"}, {"abcdefghijklmno", ""}} {
			mustBe(t, around[0]+string([]byte{byte(c)})+around[1], small || c >= '0' && c <= '9' || c == '_', false)
		}
	}
}

func TestP102Words(t *testing.T) {
	all := words()
	if len(all) != 27 {
		t.Fatal(len(all), "words")
	}
	for _, s := range all {
		mustBe(t, s, false, true)
		mustBe(t, strings.ToLower(s), true, false)
		for _, near := range []string{s[1:], s[:len(s)-1], s + "S", s + " ", " " + s, s + s, s[:1] + strings.ToLower(s[1:]), s + "\x00"} {
			mustBe(t, near, false, slices.Contains(all, near))
		}
	}
	for _, s := range []string{"", "ASC", "AS", "HAVING", "DISTINCT", "IN", "BETWEEN", "AVG", "CREATE", "select", "Select"} {
		if lex.IsWord(s) {
			t.Errorf("%q is a word", s)
		}
	}
}
