package lex

import (
	"math"
	"slices"
	"strings"
	"testing"
	"unsafe"

	"pillarbox/api"
	"pillarbox/rows"
)

// piece is a token as it is written, and what it says.
type piece struct {
	kind   int
	source string
	text   string
}

// same is a piece whose text is as it is written.
func same(kind int, source string) piece { return piece{kind, source, source} }

// ended is a piece whose text is all but its two ends.
func ended(kind int, source string) piece { return piece{kind, source, source[1 : len(source)-1]} }

// alone are tokens that are a whole text each, by their kinds.
var alone = map[int][]piece{
	api.TokAtom: {
		same(api.TokAtom, "a"), same(api.TokAtom, "z"), same(api.TokAtom, "A"), same(api.TokAtom, "Z"), same(api.TokAtom, "0"), same(api.TokAtom, "9"), same(api.TokAtom, "-"), same(api.TokAtom, "ab"), same(api.TokAtom, "a+b"), same(api.TokAtom, "1-2"),
		same(api.TokAtom, "!#$%&'*+-/=?^_`{|}~"), same(api.TokAtom, "abcdefghijklmnopqrstuvwxyzABCDEFGHIJKLMNOPQRSTUVWXYZ0123456789"),
		// Bytes of 80 or more, whatever the tables say of the characters.
		same(api.TokAtom, "\u00e4"), same(api.TokAtom, "b\u00fccher"), same(api.TokAtom, "\u0080"), same(api.TokAtom, "\u00a0"), same(api.TokAtom, "\u07ff\u0800\uffff"), same(api.TokAtom, "\U00010000"), same(api.TokAtom, "\U0010ffff"), same(api.TokAtom, "\u3002\uff20\u2028"), same(api.TokAtom, "a\u0308"),
	},
	api.TokSign: {
		same(api.TokSign, "<"), same(api.TokSign, ">"), same(api.TokSign, ":"), same(api.TokSign, ";"), same(api.TokSign, "@"), same(api.TokSign, ","), same(api.TokSign, "."),
	},
	api.TokWhite: {
		same(api.TokWhite, " "), same(api.TokWhite, "\t"), same(api.TokWhite, "  "), same(api.TokWhite, " \t\t "), same(api.TokWhite, "\r\n "), same(api.TokWhite, "\r\n\t"), same(api.TokWhite, " \r\n "), same(api.TokWhite, "\r\n \r\n\t"), same(api.TokWhite, "\t\r\n  \r\n \t"),
	},
	api.TokQuote: {
		{api.TokQuote, `""`, ""}, ended(api.TokQuote, `"a"`), ended(api.TokQuote, `"a b"`), ended(api.TokQuote, "\" \t\""), ended(api.TokQuote, `"a.b@c"`), ended(api.TokQuote, `"(a)[b]<c>:;,"`), ended(api.TokQuote, `"("`), ended(api.TokQuote, "\"\u00e4\U0010ffff\""),
		ended(api.TokQuote, `" !#$%&'()*+,-./:;<=>?@[]^_{|}~"`), ended(api.TokQuote, "\"`\""),
		// With a \ ahead of an end, of another one, and of what needs none.
		{api.TokQuote, `"a\"b"`, `a"b`}, {api.TokQuote, `"\""`, `"`}, {api.TokQuote, `"\"\""`, `""`}, {api.TokQuote, `"\\"`, `\`}, {api.TokQuote, `"\\\\"`, `\\`}, {api.TokQuote, `"\\\""`, `\"`}, {api.TokQuote, `"\"\\"`, `"\`}, {api.TokQuote, `"a\\b"`, `a\b`},
		{api.TokQuote, `"\a"`, "a"}, {api.TokQuote, `"a\ b"`, "a b"}, {api.TokQuote, "\"\\\t\"", "\t"}, {api.TokQuote, `"\(\)\[\]"`, "()[]"}, {api.TokQuote, "\"\\\u00e4b\"", "\u00e4b"}, {api.TokQuote, "\"\\\U0010ffff\"", "\U0010ffff"},
	},
	api.TokNote: {
		{api.TokNote, "()", ""}, ended(api.TokNote, "(a)"), ended(api.TokNote, "(a b)"), ended(api.TokNote, "( \t)"), ended(api.TokNote, "(a.b@c)"), ended(api.TokNote, `("a")`), ended(api.TokNote, `(")`), ended(api.TokNote, "([)"), ended(api.TokNote, "(])"), ended(api.TokNote, "(\u00e4\U0010ffff)"),
		// Notes in it, in one another and side by side.
		ended(api.TokNote, "(())"), ended(api.TokNote, "((()))"), ended(api.TokNote, "(()())"), ended(api.TokNote, "(a(b)c)"), ended(api.TokNote, "(a(b)c(d)e(f)g)"), ended(api.TokNote, "((a)(b(c)(d))((e)))"), ended(api.TokNote, "( ( ) ( ) )"),
		// What a \ stands ahead of is told with it, and is no end.
		ended(api.TokNote, `(\))`), ended(api.TokNote, `(\()`), ended(api.TokNote, `(\\)`), ended(api.TokNote, `(\\\))`), ended(api.TokNote, `((\)))`), ended(api.TokNote, `((\\)\()`), ended(api.TokNote, `(a\bc)`), ended(api.TokNote, `(\ )`), ended(api.TokNote, "(\\\t)"), ended(api.TokNote, "(\\\u00e4)"), ended(api.TokNote, `(\"\[)`),
	},
	api.TokLiteral: {
		{api.TokLiteral, "[]", ""}, ended(api.TokLiteral, "[1.2.3.4]"), ended(api.TokLiteral, "[IPv6:::1]"), ended(api.TokLiteral, `["]`), ended(api.TokLiteral, "[(]"), ended(api.TokLiteral, "[)]"), ended(api.TokLiteral, "[<@>,;]"), ended(api.TokLiteral, "[\u00e4\U0010ffff]"), ended(api.TokLiteral, "[!#$%&'*+-/=?^_{|}~]"), ended(api.TokLiteral, "[`]"),
	},
}

// kinds are all kinds of tokens.
var kinds = []int{api.TokAtom, api.TokSign, api.TokWhite, api.TokQuote, api.TokNote, api.TokLiteral}

// all are the tokens of all kinds, kind by kind.
func all() []piece {
	var l []piece
	for _, kind := range kinds {
		l = append(l, alone[kind]...)
	}
	return l
}

// written is the text of pieces, and its tokens.
func written(l ...piece) (string, []api.Token) {
	s := ""
	var want []api.Token
	for _, p := range l {
		want = append(want, api.Token{Kind: p.kind, Text: p.text, At: len(s)})
		s += p.source
	}
	return s, want
}

func wantTokens(t *testing.T, s string, want []api.Token) {
	t.Helper()
	if l, at, e := Lex(s); !slices.Equal(l, want) || at != 0 || e != api.OK {
		t.Errorf("Lex of %.99q: got %+v, %d, %d, want %+v", s, l, at, e, want)
	}
}

func wantWrong(t *testing.T, s string, place int, want api.Errno) {
	t.Helper()
	if l, at, e := Lex(s); len(l) != 0 || at != place || e != want {
		t.Errorf("Lex of %.99q: got %+v, %d, %d, want %d, %d", s, l, at, e, place, want)
	}
}

func wantSource(t *testing.T, k api.Token, want string) {
	t.Helper()
	if got := Source(k); got != want {
		t.Errorf("Source of %d, %.99q: got %.99q, want %.99q", k.Kind, k.Text, got, want)
	}
}

// isIn tells whether b is one of some bytes.
func isIn(b byte, some string) bool { return strings.IndexByte(some, b) >= 0 }

// stands tells whether a byte of ASCII may stand in a quote, and in a note.
func stands(b byte) bool { return b == 9 || b >= 0x20 && b <= 0x7e }

// P12.1: what is an atom, and what is atoms with a dot between two.
func TestPlainAndWords(t *testing.T) {
	for _, p := range alone[api.TokAtom] {
		s := p.source
		if !Plain(s) || !Words(s) {
			t.Errorf("%q: got %v, %v", s, Plain(s), Words(s))
		}
		for _, more := range []string{s + ".a", "a." + s, s + "." + s, "a." + s + ".b.c.d"} {
			if Plain(more) || !Words(more) {
				t.Errorf("%q: got %v, %v", more, Plain(more), Words(more))
			}
		}
		for _, none := range []string{"." + s, s + ".", "." + s + ".", s + ".." + s, s + "...a", ".." + s, s + "..", " " + s, s + " ", s + " .a", "a. " + s, s + "@a.b", `"` + s + `"`, s + `.""`, s + "\r\n ", s + "\x00", s + ".\x7f"} {
			if Plain(none) || Words(none) {
				t.Errorf("%q: got %v, %v", none, Plain(none), Words(none))
			}
		}
	}
	for _, none := range []string{"", ".", "..", " ", "\t", "a b", "a. b", ". .", "a,b", "()", "[a]", `"a"`, `a\b`, "a.b@c"} {
		if Plain(none) || Words(none) {
			t.Errorf("%q: got %v, %v", none, Plain(none), Words(none))
		}
	}
}

// P12.1: neither asks how long a text is.
func TestPlainAndWordsOfLong(t *testing.T) {
	for n := 1; n <= 1<<20; n *= 32 {
		row := strings.Repeat("a", n)
		if !Plain(row) || !Words(row) || Plain(row+" ") || Words(row+" ") {
			t.Errorf("%d bytes", n)
		}
		dots := strings.Repeat("a.", n)
		if Plain(dots+"b") || !Words(dots+"b") || Words(dots) || Words(dots+".b") {
			t.Errorf("%d dots", n)
		}
	}
}

// P12.1: every byte, be it a character's or not: alone, first, last, between, and beside a dot.
func TestPlainAndWordsOfBytes(t *testing.T) {
	const letters = "abcdefghijklmnopqrstuvwxyzABCDEFGHIJKLMNOPQRSTUVWXYZ0123456789!#$%&'*+-/=?^_`{|}~"
	for n := range 256 {
		b := string([]byte{byte(n)})
		is := n >= 0x80 || isIn(byte(n), letters)
		for _, s := range []string{b, "a" + b, b + "a", "a" + b + "a", b + b} {
			if Plain(s) != is {
				t.Errorf("Plain of %q: got %v", s, !is)
			}
		}
		for _, s := range []string{b, "a." + b, b + ".a", "a." + b + ".a", "a.b" + b + ".a", b + "." + b} {
			if Words(s) != is {
				t.Errorf("Words of %q: got %v", s, !is)
			}
		}
	}
}

// P12.2: the chapter's example, and ordinary texts.
func TestLex(t *testing.T) {
	for s, want := range map[string][]api.Token{
		"\"a\\\"b\" (c)@d": {{Kind: api.TokQuote, Text: "a\"b", At: 0}, {Kind: api.TokWhite, Text: " ", At: 6}, {Kind: api.TokNote, Text: "c", At: 7}, {Kind: api.TokSign, Text: "@", At: 10}, {Kind: api.TokAtom, Text: "d", At: 11}},
		"":                 nil,
		"a@b":              {{Kind: api.TokAtom, Text: "a", At: 0}, {Kind: api.TokSign, Text: "@", At: 1}, {Kind: api.TokAtom, Text: "b", At: 2}},
		"<\u00e4@[1.2]>,":  {{Kind: api.TokSign, Text: "<", At: 0}, {Kind: api.TokAtom, Text: "\u00e4", At: 1}, {Kind: api.TokSign, Text: "@", At: 3}, {Kind: api.TokLiteral, Text: "1.2", At: 4}, {Kind: api.TokSign, Text: ">", At: 9}, {Kind: api.TokSign, Text: ",", At: 10}},
		"g: a.b@c;":        {{Kind: api.TokAtom, Text: "g", At: 0}, {Kind: api.TokSign, Text: ":", At: 1}, {Kind: api.TokWhite, Text: " ", At: 2}, {Kind: api.TokAtom, Text: "a", At: 3}, {Kind: api.TokSign, Text: ".", At: 4}, {Kind: api.TokAtom, Text: "b", At: 5}, {Kind: api.TokSign, Text: "@", At: 6}, {Kind: api.TokAtom, Text: "c", At: 7}, {Kind: api.TokSign, Text: ";", At: 8}},
		"a\r\n b":          {{Kind: api.TokAtom, Text: "a", At: 0}, {Kind: api.TokWhite, Text: "\r\n ", At: 1}, {Kind: api.TokAtom, Text: "b", At: 4}},
		"..":               {{Kind: api.TokSign, Text: ".", At: 0}, {Kind: api.TokSign, Text: ".", At: 1}},
		"(\\))(a)":         {{Kind: api.TokNote, Text: "\\)", At: 0}, {Kind: api.TokNote, Text: "a", At: 4}},
	} {
		wantTokens(t, s, want)
	}
}

// P12.2: each kind alone.
func TestLexOne(t *testing.T) {
	for _, p := range all() {
		s, want := written(p)
		wantTokens(t, s, want)
	}
}

// P12.2: all that may stand side by side are two tokens, and what may not is one.
func TestLexTwo(t *testing.T) {
	for _, p := range all() {
		for _, q := range all() {
			s, want := written(p, q)
			if p.kind == q.kind && (p.kind == api.TokAtom || p.kind == api.TokWhite) {
				want = []api.Token{{Kind: p.kind, Text: s}}
			}
			wantTokens(t, s, want)
		}
	}
}

// P12.2: all together, in order and not.
func TestLexAll(t *testing.T) {
	var row, mixed []piece
	for _, p := range all() {
		row = append(row, p, same(api.TokSign, ","))
	}
	for at := range 5 {
		for _, kind := range kinds {
			mixed = append(mixed, alone[kind][at])
		}
	}
	for _, l := range [][]piece{row, mixed} {
		s, want := written(l...)
		wantTokens(t, s, want)
	}
}

// P12.2: half a fold is wrong at its beginning, wherever it stands; so is a fold without a blank behind.
func TestHalfFolds(t *testing.T) {
	for _, half := range []string{"\r", "\n", "\r\n", "\n\r", "\n ", "\r ", "\r\t", "\ra", "\r\na", "\r\n\r", "\r\n\n", "\r\n\r\n", "\r\n\r\n ", "\r\r\n ", "\n\r\n ", "\r\n\x00", "\r\n\x1f", "\r\n!", "\r\n.", "\r\n\u00a0", "\r\n\v", "\r \n"} {
		for _, ahead := range []string{"", "a", " ", "\t", "\r\n ", " \r\n \t", "<", `"a"`, "(b)", "[c]", "\u00e4"} {
			wantWrong(t, ahead+half, len(ahead), api.ErrForm)
			wantWrong(t, ahead+half+`"`, len(ahead), api.ErrForm)
		}
	}
	// A blank of another kind than ASCII's makes no fold, and a whole fold may stand in nothing else.
	for s, place := range map[string]int{"\"a\r\n b\"": 2, "(a\r\n b)": 2, "[a\r\n b]": 2, "\"\\\r\n \"": 2, "(\\\r\n )": 2, "((\r\n ))": 2} {
		wantWrong(t, s, place, api.ErrForm)
	}
}

// P12.2: a missing end is told at the opening one, whatever stands behind it.
func TestMissingEnds(t *testing.T) {
	for open, missing := range map[string][]string{
		`"`: {"", "a", " ", `\"`, `\\\"`, `a\"b`, `\`, `a\`, `\\\`, `\\`, "(", ")", "[]", "()", "\u00e4", "\\\u00e4", "'", " \t", ".@,"},
		"[": {"", "a", "1.2", "(", ")", `"`, `""`, "()", "\u00e4", "<@>"},
		"(": {"", "a", " ", `\)`, `\\\)`, `a\)b`, `\`, `a\`, `\\\`, `\\`, "(", "()", "(a)", "(a)(b)", "((a)", "(((", `(\))`, `()\)`, `(\`, "[", `"`, `""`, "[]", "\u00e4", "a(b(c)d", " \t"},
	} {
		for _, s := range missing {
			for _, ahead := range []string{"", "a", " ", "a@", "\r\n ", `"b"`, "(b)", "[b]", `"\"\\"`, `(\()`, "\u00e4"} {
				wantWrong(t, ahead+open+s, len(ahead), api.ErrForm)
			}
		}
	}
	for s, place := range map[string]int{`"a""`: 3, `"a"b"`: 4, `""""" `: 4, "(a)(": 3, "(a)b(c": 4, "[a][": 3, "[a]b[c": 4, `("a"`: 0, `"(a)`: 0} {
		wantWrong(t, s, place, api.ErrForm)
	}
}

// P12.2: a closing end that closes nothing is wrong there.
func TestEndsOfNothing(t *testing.T) {
	for s, place := range map[string]int{")": 0, "]": 0, "a)": 1, "a]": 1, "()a)": 3, "())": 2, "(()))": 4, "[]]": 2, "[a]b]": 4, " )": 1, `"a")`: 3, `(\))) `: 4, `\`: 0, `a\b`: 1, `\"a\"`: 0, `a\`: 1} {
		wantWrong(t, s, place, api.ErrForm)
	}
}

// P12.2: every byte of ASCII outside of all that has ends.
func TestBytesOutside(t *testing.T) {
	for n := range 0x80 {
		b := byte(n)
		// None of these has a second end here.
		s := "a " + string(b) + "\\"
		switch {
		case isIn(b, "\"[("):
			s = "a " + string(b) + "a"
			wantWrong(t, s, 2, api.ErrForm)
		case isIn(b, "\t !#$%&'*+-/=?^_`{|}~<>:;@,.") || b >= '0' && b <= '9' || b >= 'a' && b <= 'z' || b >= 'A' && b <= 'Z':
			wantWrong(t, s, 3, api.ErrForm)
		default:
			wantWrong(t, s, 2, api.ErrForm)
			wantWrong(t, string(b), 0, api.ErrForm)
			wantWrong(t, "a"+string(b)+"\x01", 1, api.ErrForm)
		}
	}
}

// P12.2: every byte of ASCII within a quote.
func TestBytesInQuote(t *testing.T) {
	for n := range 0x80 {
		b := byte(n)
		s := `x"a` + string(b) + `c"`
		switch {
		case b == '"':
			wantWrong(t, s, 5, api.ErrForm)
		case b == '\\':
			wantTokens(t, s, []api.Token{{Kind: api.TokAtom, Text: "x"}, {Kind: api.TokQuote, Text: "ac", At: 1}})
		case stands(b):
			wantTokens(t, s, []api.Token{{Kind: api.TokAtom, Text: "x"}, {Kind: api.TokQuote, Text: "a" + string(b) + "c", At: 1}})
		default:
			wantWrong(t, s, 3, api.ErrForm)
			wantWrong(t, `"`+string(b), 1, api.ErrForm)
		}
		s = `x"a\` + string(b) + `c"`
		if stands(b) {
			wantTokens(t, s, []api.Token{{Kind: api.TokAtom, Text: "x"}, {Kind: api.TokQuote, Text: "a" + string(b) + "c", At: 1}})
		} else {
			wantWrong(t, s, 4, api.ErrForm)
			wantWrong(t, `"\`+string(b), 2, api.ErrForm)
			wantWrong(t, `"\\\`+string(b)+`"`, 4, api.ErrForm)
		}
	}
}

// P12.2: every byte of ASCII within a literal, where no \ may stand.
func TestBytesInLiteral(t *testing.T) {
	for n := range 0x80 {
		b := byte(n)
		s := "x[a" + string(b) + "c]"
		switch {
		case b == ']':
			wantWrong(t, s, 5, api.ErrForm)
		case b > 0x20 && b < 0x7f && b != '[' && b != '\\':
			wantTokens(t, s, []api.Token{{Kind: api.TokAtom, Text: "x"}, {Kind: api.TokLiteral, Text: "a" + string(b) + "c", At: 1}})
		default:
			wantWrong(t, s, 3, api.ErrForm)
			wantWrong(t, "["+string(b), 1, api.ErrForm)
			wantWrong(t, "["+string(b)+"]", 1, api.ErrForm)
		}
		wantWrong(t, `x[a\`+string(b)+"c]", 3, api.ErrForm)
	}
	wantWrong(t, `[\`, 1, api.ErrForm)
	wantWrong(t, `[\]]`, 1, api.ErrForm)
}

// P12.2: every byte of ASCII within a note, and within a note in it.
func TestBytesInNote(t *testing.T) {
	for n := range 0x80 {
		b := byte(n)
		s, inner := "x(a"+string(b)+"c)", "x((a"+string(b)+"c)d)"
		switch {
		case b == '(':
			wantWrong(t, s, 1, api.ErrForm)
			wantWrong(t, inner, 1, api.ErrForm)
		case b == ')':
			wantWrong(t, s, 5, api.ErrForm)
			wantWrong(t, inner, 8, api.ErrForm)
		case stands(b):
			wantTokens(t, s, []api.Token{{Kind: api.TokAtom, Text: "x"}, {Kind: api.TokNote, Text: "a" + string(b) + "c", At: 1}})
			wantTokens(t, inner, []api.Token{{Kind: api.TokAtom, Text: "x"}, {Kind: api.TokNote, Text: "(a" + string(b) + "c)d", At: 1}})
		default:
			wantWrong(t, s, 3, api.ErrForm)
			wantWrong(t, inner, 4, api.ErrForm)
			wantWrong(t, "(a)("+string(b), 4, api.ErrForm)
		}
		s, inner = `x(a\`+string(b)+"c)", `x((a\`+string(b)+"c)d)"
		if stands(b) {
			wantTokens(t, s, []api.Token{{Kind: api.TokAtom, Text: "x"}, {Kind: api.TokNote, Text: `a\` + string(b) + "c", At: 1}})
			wantTokens(t, inner, []api.Token{{Kind: api.TokAtom, Text: "x"}, {Kind: api.TokNote, Text: `(a\` + string(b) + "c)d", At: 1}})
		} else {
			wantWrong(t, s, 4, api.ErrForm)
			wantWrong(t, inner, 5, api.ErrForm)
			wantWrong(t, `((a)\\\`+string(b), 7, api.ErrForm)
		}
	}
}

// P12.2: of two that are wrong the first place is told, be what it is wrong by a byte, an end that is missing, or how deep it is.
func TestFirstWrong(t *testing.T) {
	deep := strings.Repeat("(", 33)
	for _, c := range []struct {
		s     string
		place int
		e     api.Errno
	}{
		{"\x01\x02", 0, api.ErrForm}, {"a\x01\"", 1, api.ErrForm}, {"\"a\x01", 2, api.ErrForm}, {"\"\x01\x02\"", 1, api.ErrForm}, {"(a\x01", 2, api.ErrForm}, {"((a)\x01", 4, api.ErrForm}, {"[a\x01", 2, api.ErrForm}, {"[a b", 2, api.ErrForm}, {"[[", 1, api.ErrForm},
		{"\"a\\\x01", 3, api.ErrForm}, {"(a\\\x01", 3, api.ErrForm}, {") \"a", 0, api.ErrForm}, {"\"a )", 0, api.ErrForm}, {"(a) [b \"c", 6, api.ErrForm},
		{deep + "\x01", 32, api.ErrDeep}, {deep + strings.Repeat(")", 33) + "\x01", 32, api.ErrDeep}, {"\x01" + deep, 0, api.ErrForm}, {"(\x01" + deep, 1, api.ErrForm}, {"(\\\x01" + deep, 2, api.ErrForm}, {deep[:32] + "\x01(", 32, api.ErrForm}, {"\"" + deep, 0, api.ErrForm}, {") " + deep, 0, api.ErrForm},
	} {
		wantWrong(t, c.s, c.place, c.e)
	}
}

// P12.2: a text of as many bytes as there may be, and one more, which is told ahead of all that is wrong.
func TestLong(t *testing.T) {
	for kind, part := range map[int]string{api.TokAtom: "a", api.TokWhite: " ", api.TokSign: "@"} {
		s := strings.Repeat(part, 2000)
		want := []api.Token{{Kind: kind, Text: s}}
		if kind == api.TokSign {
			want = nil
			for at := range 2000 {
				want = append(want, api.Token{Kind: kind, Text: part, At: at})
			}
		}
		wantTokens(t, s, want)
		wantWrong(t, s+part, 0, api.ErrLong)
	}
	for _, ends := range []struct {
		kind          int
		opens, closes string
	}{{api.TokQuote, `"`, `"`}, {api.TokLiteral, "[", "]"}, {api.TokNote, "(", ")"}} {
		s, want := written(ended(ends.kind, ends.opens+strings.Repeat("a", 1998)+ends.closes))
		wantTokens(t, s, want)
		wantWrong(t, ends.opens+strings.Repeat("a", 1999)+ends.closes, 0, api.ErrLong)
		wantWrong(t, ends.opens+strings.Repeat("a", 1999), 0, api.ErrForm)
	}
	// Bytes are counted as they are written, not characters, nor what a quote says.
	wide := strings.Repeat("\u00e4", 1000)
	wantTokens(t, wide, []api.Token{{Kind: api.TokAtom, Text: wide}})
	wantWrong(t, wide+"a", 0, api.ErrLong)
	wantTokens(t, `"`+strings.Repeat(`\"`, 999)+`"`, []api.Token{{Kind: api.TokQuote, Text: strings.Repeat(`"`, 999)}})
	wantWrong(t, `"`+strings.Repeat(`\"`, 1000)+`"`, 0, api.ErrLong)
	for _, s := range []string{"\x01", "\xff", "\"", ")", strings.Repeat("(", 33), "a\xff\x01"} {
		wantWrong(t, s+strings.Repeat("a", 2001-len(s)), 0, api.ErrLong)
		wantWrong(t, strings.Repeat("a", 2001-len(s))+s, 0, api.ErrLong)
		wantWrong(t, strings.Repeat(s, 5000), 0, api.ErrLong)
	}
	wantWrong(t, strings.Repeat("a", 1999)+"\xff", 1999, api.ErrUtf)
	wantWrong(t, strings.Repeat("a", 1999)+"\x01", 1999, api.ErrForm)
	wantWrong(t, strings.Repeat("a", 1<<20), 0, api.ErrLong)
}

// P12.2: what is no characters is told at its first place, ahead of all that is wrong otherwise.
func TestNoCharacters(t *testing.T) {
	broken := []string{"\x80", "\xff", "\xc3", "\xe4\xb8", "\xc0\x80", "\xed\xa0\x80", "\xf4\x90\x80\x80", "\xf8", "\xc3\""}
	ahead := []string{"", "a", "\u00e4", " ", "\x01", "a\x01b", ")", "\"", "(", "[", "\"a\\", "(a\\", "\"a\x01\"", "[a b]", "\r\n", "\\", strings.Repeat("(", 33), "<a@b>"}
	for _, s := range broken {
		for _, begin := range ahead {
			for _, end := range []string{"", "a", "\"", ")", "]", "\xff", "\x01"} {
				wantWrong(t, begin+s+end, len(begin), api.ErrUtf)
			}
		}
	}
	for n := 0x80; n < 0x100; n++ {
		b := string([]byte{byte(n)})
		for _, ends := range []string{"  ", "aa", `""`, "[]", "()"} {
			wantWrong(t, ends[:1]+b+ends[1:], 1, api.ErrUtf)
		}
	}
}

// P12.2: notes as deep as they may be, and one deeper; how many there are side by side does not count.
func TestDeep(t *testing.T) {
	nested := func(n int, within string) string {
		return strings.Repeat("(", n) + within + strings.Repeat(")", n)
	}
	for _, within := range []string{"", "a", " ", `\(`, `\)`, "\u00e4"} {
		for n := 1; n <= 32; n++ {
			s, want := written(ended(api.TokNote, nested(n, within)))
			wantTokens(t, s, want)
		}
		for n := 33; n <= 40; n++ {
			wantWrong(t, nested(n, within), 32, api.ErrDeep)
			wantWrong(t, "a@"+nested(n, within), 34, api.ErrDeep)
		}
	}
	flat := "(" + strings.Repeat("()", 500) + ")"
	steps := "(" + strings.Repeat(nested(31, "a"), 20) + ")"
	escapes := nested(32, strings.Repeat(`\(`, 100))
	many := strings.Repeat(nested(32, ""), 30)
	for _, s := range []string{flat, steps, escapes} {
		row, want := written(ended(api.TokNote, s))
		wantTokens(t, row, want)
	}
	if l, at, e := Lex(many); len(l) != 30 || at != 0 || e != api.OK {
		t.Errorf("got %d tokens, %d, %d", len(l), at, e)
	}
	wantWrong(t, many+nested(33, ""), len(many)+32, api.ErrDeep)
	wantWrong(t, "("+nested(31, "")+nested(32, "")+")", 1+62+31, api.ErrDeep)
	wantWrong(t, strings.Repeat("(", 32), 0, api.ErrForm)
	wantWrong(t, strings.Repeat("(", 33), 32, api.ErrDeep)
	wantWrong(t, strings.Repeat("(", 2000), 32, api.ErrDeep)
	wantWrong(t, strings.Repeat("(a ", 600), 32*3, api.ErrDeep)
	wantWrong(t, strings.Repeat("(", 32)+strings.Repeat(")", 33), 64, api.ErrForm)
}

// P12.3: what is cut is written again, each kind in its own way.
func TestSource(t *testing.T) {
	for _, p := range all() {
		want := p.source
		if p.kind == api.TokQuote {
			want = slowSource(api.Token{Kind: p.kind, Text: p.text})
		}
		for _, at := range []int{0, 1, -1, math.MaxInt, math.MinInt} {
			wantSource(t, api.Token{Kind: p.kind, Text: p.text, At: at}, want)
		}
	}
	for text, want := range map[string]string{
		"": `""`, "a": `"a"`, "a b": `"a b"`, `"`: `"\""`, `\`: `"\\"`, `\"`: `"\\\""`, `"\`: `"\"\\"`, `a"b\c`: `"a\"b\\c"`, `""`: `"\"\""`, `\\`: `"\\\\"`, `"a"`: `"\"a\""`, "\u00e4\"": "\"\u00e4\\\"\"", "()[]": `"()[]"`, strings.Repeat(`"`, 3000): `"` + strings.Repeat(`\"`, 3000) + `"`,
	} {
		wantSource(t, api.Token{Kind: api.TokQuote, Text: text}, want)
	}
}

// P12.3: texts that no token has are written likewise, and kinds that there are not as they are.
func TestSourceOfStrange(t *testing.T) {
	strange := []string{"", "a", "a b", " ", "\r\n", "\x00", "\x7f", "\xff", "\xc3\"\xa4\\", "\"", "\\", "(", ")", "((", "]", "[", "[a]", "(a)", "\\)", "<>", strings.Repeat("(", 40), strings.Repeat("a\"", 2001)}
	for _, text := range strange {
		wantSource(t, api.Token{Kind: api.TokNote, Text: text}, "("+text+")")
		wantSource(t, api.Token{Kind: api.TokLiteral, Text: text}, "["+text+"]")
		for _, kind := range []int{api.TokAtom, api.TokSign, api.TokWhite, -1, 6, 7, 1 << 32, 1<<32 + api.TokQuote, math.MaxInt, math.MinInt, math.MinInt + api.TokNote} {
			wantSource(t, api.Token{Kind: kind, Text: text}, text)
		}
		wantSource(t, api.Token{Kind: api.TokQuote, Text: text}, slowSource(api.Token{Kind: api.TokQuote, Text: text}))
	}
	wantSource(t, api.Token{Kind: api.TokQuote, Text: "\xc3\"\xa4\\"}, "\"\xc3\\\"\xa4\\\\\"")
	wantSource(t, api.Token{Kind: api.TokQuote, Text: "\r\n\x00"}, "\"\r\n\x00\"")
}

// lent is a string that is made of the bytes themselves, so that it shows when they change.
func lent(b []byte) string { return unsafe.String(unsafe.SliceData(b), len(b)) }

// P12.4: no text that is answered shares memory with what was handed in, or with another one.
func TestTextsAreNew(t *testing.T) {
	s, want := written(all()...)
	// Side by side some atoms, and some blanks, are one.
	want, _, _ = slowLex(s)
	bytes := []byte(s)
	l, _, _ := Lex(lent(bytes))
	for at := range bytes {
		bytes[at] = 'X'
	}
	if !slices.Equal(l, want) {
		t.Errorf("Lex: what was handed in is kept: %+v", l)
	}
	for _, k := range want {
		bytes := []byte(k.Text)
		got := Source(api.Token{Kind: k.Kind, Text: lent(bytes)})
		for at := range bytes {
			bytes[at] = 'X'
		}
		if got != slowSource(k) {
			t.Errorf("Source of %d, %q: what was handed in is kept: %q", k.Kind, k.Text, got)
		}
	}
}

// P12.4: two lists that are answered share nothing, spare room too.
func TestListsAreNew(t *testing.T) {
	strange := api.Token{Kind: 99, Text: "X", At: 99}
	for _, s := range []string{"a", "a@b", "a@b.c", "\"a\" <b@[c]> (d)", "a,b,c,d,e,f,g,h,i"} {
		want, _, _ := slowLex(s)
		first, _, _ := Lex(s)
		second, _, _ := Lex(s)
		first = first[:cap(first)]
		for at := range first {
			first[at] = strange
		}
		if !slices.Equal(second, want) || slices.Contains(second[:cap(second)], strange) {
			t.Errorf("%q: one answer changed another: %+v", s, second[:cap(second)])
		}
		wantTokens(t, s, want)
	}
}

// checkFollows is P12.5 of what s was cut into.
func checkFollows(t *testing.T, s string, l []api.Token) {
	t.Helper()
	var sources strings.Builder
	quotes := false
	for _, k := range l {
		sources.WriteString(Source(k))
		quotes = quotes || k.Kind == api.TokQuote
	}
	again, at, e := Lex(sources.String())
	same := func(a, b api.Token) bool { return a.Kind == b.Kind && a.Text == b.Text }
	if at != 0 || e != api.OK || !slices.EqualFunc(again, l, same) {
		t.Errorf("%.99q: cut again as %.99q: got %+v, %d, %d", s, sources.String(), again, at, e)
	}
	if !quotes && sources.String() != s {
		t.Errorf("%.99q: written again as %.99q", s, sources.String())
	}
	for k, token := range l {
		end := len(s)
		if k+1 < len(l) {
			end = l[k+1].At
		}
		// But for quotes, each one is written as it stood.
		if token.Kind != api.TokQuote && Source(token) != s[token.At:end] {
			t.Errorf("%.99q: %.99q stands at %d", s, Source(token), token.At)
		}
	}
}

// checkAll holds all that is told of s against the chapter's words.
func checkAll(t *testing.T, s string) {
	t.Helper()
	want, place, e := slowLex(s)
	if e != api.OK {
		wantWrong(t, s, place, e)
	} else {
		wantTokens(t, s, want)
		checkFollows(t, s, want)
	}
	if Plain(s) != slowPlainText.MatchString(s) || Words(s) != slowWordsText.MatchString(s) {
		t.Errorf("%.99q: got %v, %v", s, Plain(s), Words(s))
	}
	for _, k := range want {
		wantSource(t, k, slowSource(k))
	}
}

// P12.5: tokens of all kinds, two and three side by side.
func TestFollows(t *testing.T) {
	for _, p := range all() {
		for _, q := range all() {
			for _, r := range []string{"", ",", "a", " ", `"\\\a"`, `(\))`, "[]"} {
				checkAll(t, p.source+r+q.source)
			}
		}
	}
}

// P12.1 to P12.5: all short texts of what tokens are made of.
func TestShortTexts(t *testing.T) {
	for _, c := range []struct {
		parts []string
		n     int
	}{
		{[]string{"a", ".", " ", "\r", "\n", `"`, `\`, "(", ")", "[", "]", "\x01", "\u00e4", "\xff"}, 4},
		{[]string{`"`, `\`, "a", "\x7f"}, 7},
		{[]string{"(", ")", `\`, "\x7f"}, 7},
		{[]string{"[", "]", `\`, "a", " "}, 6},
		{[]string{"\r", "\n", " ", "\t", "a"}, 6},
		{[]string{"\r\n", "\r\n ", "(", "\"", "a"}, 5},
		{[]string{"a", ".", "\u00e4", "@"}, 6},
		{[]string{strings.Repeat("(", 16), strings.Repeat(")", 16), "(", ")", `\`}, 5},
	} {
		rows.Texts(c.parts, c.n, func(s string) { checkAll(t, s) })
	}
}
