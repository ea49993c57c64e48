package lex_test

import (
	"encoding/hex"
	"math/big"
	"regexp"
	"slices"
	"strings"
	"testing"
	"unsafe"

	"unison/api"
	"unison/lex"
)

// What follows cuts a source by patterns, each one a line of the chapter's table.

var (
	betweenPattern = regexp.MustCompile(`\A(?:[ \t\n]|--[^\n]*)+`)
	runPattern     = regexp.MustCompile(`\A:?[A-Za-z0-9_]*`)
	openPattern    = regexp.MustCompile(`\A'(?:''|[^'])*`)
	signPattern    = regexp.MustCompile(`\A(?:<>|<=|>=|[;,().*+/%=<>-])`)

	numberPattern = regexp.MustCompile(`\A(?:0|[1-9][0-9]*)\z`)
	plainPattern  = regexp.MustCompile(`\A[a-z][a-z0-9_]{0,15}\z`)
	wordPattern   = regexp.MustCompile(`\A(?:` + strings.Join(words(), "|") + `)\z`)
	charPattern   = regexp.MustCompile(`''|\\[01][0-9a-f]|\\7f|\\[89a-f][0-9a-f]|\\5c|[ -&(-\[\]-~]`)
)

// plainText is what a text says; false: it is no literal of one.
func plainText(s string) (string, bool) {
	body := strings.TrimPrefix(s, "'")
	says, count := "", 0
	for _, c := range charPattern.FindAllString(body[:len(body)-1], -1) {
		count += len(c)
		if code, ok := strings.CutPrefix(c, `\`); ok {
			b, _ := hex.DecodeString(code)
			c = string(b)
		}
		says += c[:1]
	}
	return says, count == len(body)-1 && len(says) <= 64
}

func plainNumber(s string) (int, bool) {
	n, ok := new(big.Int).SetString(s, 10)
	return int(n.Int64()), ok && n.Cmp(new(big.Int).Lsh(big.NewInt(1), 62)) <= 0
}

// plainToken is what a source, which neither a blank nor a remark begins, begins with, and how many bytes that has.
func plainToken(s string) (api.Token, int, api.Errno) {
	run := runPattern.FindString(s)
	name := strings.TrimPrefix(run, ":")
	switch {
	case s[0] == ':' && plainPattern.MatchString(name):
		return api.Token{Kind: api.TokParam, Text: name}, len(run), api.OK
	case s[0] == ':':
		return api.Token{}, 0, api.ErrLexName
	case s[0] >= '0' && s[0] <= '9':
		if numberPattern.MatchString(run) {
			if n, ok := plainNumber(run); ok {
				return api.Token{Kind: api.TokNumber, Num: n}, len(run), api.OK
			}
		}
		return api.Token{}, 0, api.ErrLexNumber
	case wordPattern.MatchString(run):
		return api.Token{Kind: api.TokWord, Text: run}, len(run), api.OK
	case plainPattern.MatchString(run):
		return api.Token{Kind: api.TokName, Text: run}, len(run), api.OK
	case run != "":
		return api.Token{}, 0, api.ErrLexName
	}
	if open := openPattern.FindString(s); open != "" {
		if strings.HasPrefix(s[len(open):], "'") {
			if says, ok := plainText(open + "'"); ok {
				return api.Token{Kind: api.TokText, Text: says}, len(open) + 1, api.OK
			}
		}
		return api.Token{}, 0, api.ErrLexText
	}
	if sign := signPattern.FindString(s); sign != "" {
		return api.Token{Kind: api.TokSign, Text: sign}, len(sign), api.OK
	}
	return api.Token{}, 0, api.ErrLexByte
}

func plainScan(s string) ([]api.Token, int, api.Errno) {
	if len(s) > 1000 {
		return nil, 0, api.ErrLong
	}
	var l []api.Token
	for at := 0; ; {
		at += len(betweenPattern.FindString(s[at:]))
		if at == len(s) {
			return append(l, api.Token{Kind: api.TokEnd, At: at}), 0, api.OK
		}
		t, size, e := plainToken(s[at:])
		if e != api.OK {
			return nil, at, e
		}
		t.At = at
		l = append(l, t)
		at += size
	}
}

// soundScan holds a source's tokens against the plain ones, and its places against one another; it tells the tokens.
func soundScan(t *testing.T, s string) []api.Token {
	t.Helper()
	l, at, e := lex.Scan(s)
	want, wantAt, wantE := plainScan(s)
	if !slices.Equal(l, want) || at != wantAt || e != wantE {
		t.Fatalf("Scan(%q) = %v, %d, %d; want %v, %d, %d", s, l, at, e, want, wantAt, wantE)
	}
	for i := 1; i < len(l); i++ {
		if l[i].At <= l[i-1].At {
			t.Fatalf("Scan(%q): the places do not rise: %v", s, l)
		}
	}
	if n, w := lex.IsName(s), lex.IsWord(s); n != plainPattern.MatchString(s) || w != wordPattern.MatchString(s) {
		t.Fatalf("%q: IsName %v, IsWord %v", s, n, w)
	}
	return l
}

// All texts of few bytes, of bytes of each class.
func TestP101AllShortSources(t *testing.T) {
	const bytes = "a_A0719:'<>=-\\\n !"
	size := 4
	if testing.Short() {
		size = 3
	}
	var all func(s string)
	all = func(s string) {
		soundScan(t, s)
		if len(s) == size {
			return
		}
		for i := range len(bytes) {
			all(s + bytes[i:i+1])
		}
	}
	all("")
}

func TestP101AllPairsOfBytes(t *testing.T) {
	for a := range 256 {
		for b := range 256 {
			soundScan(t, string([]byte{byte(a), byte(b)}))
			soundScan(t, "'"+string([]byte{byte(a), byte(b)})+"'")
			soundScan(t, "a"+string([]byte{byte(a), byte(b)})+"1")
		}
	}
}

// dice are numbers that look thrown, and are always the same.
type dice uint64

func (d *dice) below(n int) int {
	*d = *d*6364136223846793005 + 1442695040888963407
	return int(*d>>33) % n
}

// pieces are sources of one token each, or of what is none.
func pieces() []string {
	return append(words(), "a", "z9_", "abcdefghijklmnop", "abcdefghijklmnopq", "Ab", "_", "0", "7", "10", "00", "1a", "4611686018427387904", "4611686018427387905",
		":a", ":", ":A", ":p_1", "''", "'it''s'", `'\0a'`, `'\41'`, "'", "'\n'", "<", ">", "=", "<>", "<=", ">=", "-", "--", "(", ")", ",", ";", ".", "*", "+", "/", "%", "!", "\x00", "\xff", "\n", " ", "\t", "-- x\n")
}

func TestP101LongSources(t *testing.T) {
	d := dice(1)
	all := pieces()
	for range 20000 {
		var s strings.Builder
		for range 1 + d.below(30) {
			s.WriteString(all[d.below(len(all))])
			if d.below(3) > 0 {
				s.WriteString(" ")
			}
		}
		soundScan(t, s.String())
	}
}

// written is a token as a source has it.
func written(x api.Token, s string) string {
	_, size, _ := plainToken(s[x.At:])
	return s[x.At : x.At+size]
}

// alone tells whether two pieces, with nothing between them, are still those two.
func alone(a, b string) bool {
	l, _, e := plainScan(a + b)
	return e == api.OK && len(l) == 3 && l[1].At == len(a)
}

func unplaced(l []api.Token) []api.Token {
	l = slices.Clone(l)
	for i := range l {
		l[i].At = 0
	}
	return l
}

// Blanks and remarks, one more or one less, change places alone.
func TestP103WhatStandsBetween(t *testing.T) {
	d := dice(3)
	gaps := []string{" ", "\t", "\n", "--\n", "-- 'a\xff! \n", " \t\n\n", " --x\n--\n ", "\n--07\n"}
	// Right behind a sign - a remark would begin with it.
	gap := func(i int, ahead string) string {
		if ahead == "-" {
			return " " + gaps[i]
		}
		return gaps[i]
	}
	all := slices.DeleteFunc(pieces(), func(s string) bool { l, _, e := plainScan(s); return e != api.OK || len(l) != 2 })
	for range 5000 {
		var l []string
		for range 1 + d.below(12) {
			l = append(l, all[d.below(len(all))])
		}
		first := soundScan(t, strings.Join(l, " "))
		if len(first) != len(l)+1 {
			t.Fatalf("%q: %v", l, first)
		}
		s, ahead := "", ""
		for _, piece := range l {
			if d.below(3) > 0 || ahead != "" && !alone(ahead, piece) {
				s += gap(d.below(len(gaps)), ahead)
			}
			s += piece
			ahead = piece
		}
		if d.below(2) == 0 {
			s += gap(d.below(len(gaps)), ahead) + "-- end"
		}
		if len(s) > api.MaxSource {
			continue
		}
		again, _, e := lex.Scan(s)
		if e != api.OK || !slices.Equal(unplaced(first), unplaced(again)) {
			t.Fatalf("%q: %v; %q: %v, %d", l, first, s, again, e)
		}
		for i, x := range again[:len(l)] {
			if written(x, s) != l[i] {
				t.Fatalf("%q: token %d at %d is no %q", s, i, x.At, l[i])
			}
		}
		if again[len(l)].At != len(s) {
			t.Fatalf("%q ends at %d", s, again[len(l)].At)
		}
	}
}

// Where nothing stands between, two pieces may be one, or a remark.
func TestP103WhereTwoBecomeOne(t *testing.T) {
	for _, x := range [][3]string{{"a", "b", "ab"}, {"1", "2", "12"}, {"'a'", "'b'", "'a''b'"}, {"<", "=", "<="}, {"<", ">", "<>"}, {">", "=", ">="}, {":a", "1", ":a1"}, {"a", "1", "a1"}} {
		apart, one := soundScan(t, x[0]+" "+x[1]), soundScan(t, x[0]+x[1])
		if len(apart) != 3 || len(one) != 2 || x[0]+x[1] != x[2] {
			t.Errorf("%q: %v; together %v", x, apart, one)
		}
	}
	if apart, one := soundScan(t, "- -"), soundScan(t, "--"); len(apart) != 3 || len(one) != 1 {
		t.Errorf("%v; together %v", apart, one)
	}
}

func FuzzP101ToP103(f *testing.F) {
	for _, s := range pieces() {
		f.Add("a " + s + " b")
		f.Add(s + s)
	}
	f.Add(strings.Repeat("a ", 500))
	f.Add(strings.Repeat("'", 1001))
	f.Fuzz(func(t *testing.T, s string) {
		l := soundScan(t, s)
		if len(l) > 0 && len(s) < api.MaxSource {
			if more := soundScan(t, " "+s); !slices.Equal(unplaced(l), unplaced(more)) {
				t.Fatalf("%q: %v; with a blank ahead %v", s, l, more)
			}
		}
	})
}

// lies tells whether a text's bytes lie within those of another one.
func lies(s, long string) bool {
	at, from := uintptr(unsafe.Pointer(unsafe.StringData(s))), uintptr(unsafe.Pointer(unsafe.StringData(long)))
	return len(s) > 0 && at >= from && at < from+uintptr(len(long))
}

func TestR5AnswersAreNew(t *testing.T) {
	source := strings.Clone("SELECT abc , 'text' , :param <= abc SELECT 'text' :param '' <= , -- x")
	l, _, e := lex.Scan(source)
	if e != api.OK || len(l) != 15 {
		t.Fatal(l, e)
	}
	for i, x := range l {
		if lies(x.Text, source) {
			t.Errorf("token %d, %q, is a piece of the source", i, x.Text)
		}
		for j, y := range l {
			if i != j && lies(x.Text, y.Text) {
				t.Errorf("the tokens %d and %d, %q, share their texts", i, j, x.Text)
			}
		}
	}
	again, _, _ := lex.Scan(source)
	l[0], l[1] = l[1], api.Token{}
	third, _, _ := lex.Scan(source)
	if !slices.Equal(again, third) || slices.Equal(l, again) {
		t.Errorf("%v; then %v", again, third)
	}
}

func TestR6TheSameAgain(t *testing.T) {
	for _, s := range pieces() {
		one, at, e := lex.Scan(s)
		two, atTwo, eTwo := lex.Scan(s)
		if !slices.Equal(one, two) || at != atTwo || e != eTwo || lex.IsName(s) != lex.IsName(s) || lex.IsWord(s) != lex.IsWord(s) {
			t.Errorf("%q: %v, %d, %d; then %v, %d, %d", s, one, at, e, two, atTwo, eTwo)
		}
	}
}
