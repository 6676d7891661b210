package mailbox

import (
	"math"
	"slices"
	"strings"
	"testing"
	"unsafe"

	"pillarbox/api"
	"pillarbox/lex"
	"pillarbox/rows"
	"pillarbox/ucd"
)

// table is the one that all tests ask.
var table = ucd.New()

// box is a mailbox.
func box(local, domain string) api.Mailbox { return api.Mailbox{Local: local, Domain: domain} }

// a tells n letters.
func a(n int) string { return strings.Repeat("a", n) }

// longDomain has 253 bytes, with one more it has 254.
var longDomain = a(63) + "." + a(63) + "." + a(63) + "." + a(61)

// locals are right ones: of an atom, of atoms with dots, such as must be quoted, such as have a Name and such as have none.
var locals = []string{
	"a", "Ann", "a.b", "A.b.C", "a+b", "-", "0", "!#$%&'*+-/=?^_`{|}~", "xn--a",
	"\u00e4", "\u00c4", "a\u0308", "A\u0308.b", "\uff21nn", "\u00df", "\u65e5\u672c", "\u05d0", "a.\u05d0", "\u05d01", "\u0627\u0661", "l\u00b7l", "a\u00b7b", "\u0301a", "\u3002", "a\u3002b", "\uff20", "\u0080", "\u00a0", "\u2028", "\ufffd", "\U00010400", "\U0010ffff", "\u1112\u1161\u11ab",
	" ", "\t", "a b", " a", "a ", ".", "..", ".a", "a.", "a..b", "@", "a@b", "\"", "\\", "\\\"", "\"\\", "\\\\", "a\"b", "a\\b", "a\\", "\"a\"", "()", "(", "a(b)", "[", "[a]", "<a@b>", ",", ";:", "\u00e4 \u00c4", "\\\u00e4",
	a(63), a(64), strings.Repeat("\"", 64), strings.Repeat("\\", 64), strings.Repeat(" ", 64), strings.Repeat("\u00c4", 32), strings.Repeat("\U0010ffff", 16), strings.Repeat("a.", 31) + "bc",
}

// domains are right ones: of ASCII, with wide labels, and literals.
var domains = []string{
	"a", "A", "b.c", "Mail.B", "a-b.0", "1.2.3.4", "xn--4ca", "XN--4CA.b", "xn--bcher-kva",
	"\u00e4", "\u00c4.B", "B\u00fccher", "a.b\u00fccher", "b\u00fccher.de", "a\u0308", "\u4e2d\u6587", "\u4e2d\u6587\u3002\u65e5", "a\u3002b", "a\uff0eb", "\uff21", "\u05d0", "\u05d0.a", "\uff58\uff4e\uff0d\uff0d\uff14\uff43\uff41", "\u1112\u1161\u11ab",
	a(63), strings.Repeat("a.", 31) + "a", longDomain,
	"[]", "[1.2.3.4]", "[IPv6:2001:DB8::1]", "[x]", "[X]", "[@]", "[\"]", "[(]", "[)]", "[<,;:>]", "[\u00e4]", "[\u00c4]", "[A\u0308]", "[!#$%&'*+-/=?^_`{|}~]", "[\U0010ffff]", "[..]", "[" + a(1860) + "]",
}

// wrongLocals are wrong ones, and why.
var wrongLocals = []struct {
	s string
	e api.Errno
}{
	{"", api.ErrEmpty},
	{a(65), api.ErrLong}, {strings.Repeat("\uff21", 22), api.ErrLong}, {strings.Repeat("\u00e4", 33), api.ErrLong}, {strings.Repeat("\"", 65), api.ErrLong}, {strings.Repeat(" ", 65), api.ErrLong}, {a(4096), api.ErrLong},
	{"\xff", api.ErrUtf}, {"\x80", api.ErrUtf}, {"a\xc3", api.ErrUtf}, {"\xc3\"\xa4", api.ErrUtf}, {"\xed\xa0\x80", api.ErrUtf}, {"\xc0\x80", api.ErrUtf}, {"\xf4\x90\x80\x80", api.ErrUtf}, {a(63) + "\xff", api.ErrUtf}, {"a b\xe4\xb8", api.ErrUtf},
	{"\x00", api.ErrChar}, {"a\x01", api.ErrChar}, {"\n", api.ErrChar}, {"a\rb", api.ErrChar}, {"a\r\n b", api.ErrChar}, {"\x1f", api.ErrChar}, {"\x7f", api.ErrChar}, {"\u00e4\x7f", api.ErrChar}, {"\\\x00", api.ErrChar}, {a(63) + "\x08", api.ErrChar}, {"\v\f", api.ErrChar}, {"\x0e", api.ErrChar},
	// Two that hold at once.
	{a(64) + "\xff", api.ErrLong}, {a(64) + "\x01", api.ErrLong}, {strings.Repeat("\xff", 65), api.ErrLong}, {strings.Repeat("\x00", 65), api.ErrLong}, {"\x01\xff", api.ErrUtf}, {"\xff\x01", api.ErrUtf}, {strings.Repeat("\u00e4", 32) + "\x01\xff", api.ErrLong},
}

// wrongDomains are wrong ones, and why.
var wrongDomains = []struct {
	s string
	e api.Errno
}{
	{"", api.ErrEmpty}, {".", api.ErrEmpty}, {"a.", api.ErrEmpty}, {".a", api.ErrEmpty}, {"a..b", api.ErrEmpty}, {"\u3002", api.ErrEmpty}, {"a\u3002", api.ErrEmpty}, {"a\u3002.b", api.ErrEmpty},
	{a(64), api.ErrLong}, {longDomain + "a", api.ErrLong}, {longDomain[1:] + ".a", api.ErrLong}, {strings.Repeat("a.", 32) + "a", api.ErrFull}, {strings.Repeat(".", 32), api.ErrFull},
	{"\xff", api.ErrUtf}, {"a.\xc3", api.ErrUtf}, {"\u00e4\x80", api.ErrUtf},
	{"a b", api.ErrChar}, {" a", api.ErrChar}, {"a_b", api.ErrChar}, {"a@b", api.ErrChar}, {"a]", api.ErrChar}, {"a[b]", api.ErrChar}, {" [a]", api.ErrChar}, {"\uff3ba]", api.ErrChar}, {"(a)", api.ErrChar}, {"\x00", api.ErrChar},
	{"-a", api.ErrDash}, {"a.b-", api.ErrDash}, {"ab--c", api.ErrDash}, {"\u0301", api.ErrMark}, {"\u05d0a", api.ErrBidi},
	// What begins with [ is nothing but a literal.
	{"[", api.ErrForm}, {"[[", api.ErrForm}, {"[[]", api.ErrForm}, {"[]]", api.ErrForm}, {"[a", api.ErrForm}, {"[a]b", api.ErrForm}, {"[a].b", api.ErrForm}, {"[a]]", api.ErrForm}, {"[[a]]", api.ErrForm}, {"[a][b]", api.ErrForm}, {"[a b]", api.ErrForm}, {"[ ]", api.ErrForm}, {"[a\t]", api.ErrForm}, {"[a] ", api.ErrForm}, {"[\\]", api.ErrForm}, {"[a\\]]", api.ErrForm}, {"[a\\b]", api.ErrForm}, {"[\x00]", api.ErrForm}, {"[\x1f]", api.ErrForm}, {"[\x7f]", api.ErrForm}, {"[\r\n]", api.ErrForm}, {"[\xff]", api.ErrForm}, {"[\xc3]", api.ErrForm}, {"[\xc3]\xa4]", api.ErrForm}, {"[\u00e4", api.ErrForm}, {"[a]\xff", api.ErrForm}, {"[" + a(3000), api.ErrForm}, {"[a\uff3d", api.ErrForm},
}

// others are rows of what does not count, the empty one among them.
var others = []string{"", " ", "\t", "\r\n ", " \t\r\n\t ", "()", "(n)", " (n) ", "(a)(b)", "((a)@(b))", "(\\))(\")", "( a@b )\r\n (.)"}

func wantRight(t *testing.T, m api.Mailbox, want api.Errno) {
	t.Helper()
	if e := Right(table, m); e != want {
		t.Errorf("Right of %.99q: got %d, want %d", m, e, want)
	}
}

func wantTake(t *testing.T, l []api.Token, want api.Mailbox, count int, is bool) {
	t.Helper()
	if m, n, got := Take(l); m != want || n != count || got != is {
		t.Errorf("Take of %.999v: got %.99q, %d, %v, want %.99q, %d, %v", l, m, n, got, want, count, is)
	}
}

func wantParse(t *testing.T, s string, want api.Mailbox) {
	t.Helper()
	if m, e := Parse(table, s); m != want || e != api.OK {
		t.Errorf("Parse of %.99q: got %.99q, %d, want %.99q", s, m, e, want)
	}
}

func wantNone(t *testing.T, s string, want api.Errno) {
	t.Helper()
	if m, e := Parse(table, s); m != (api.Mailbox{}) || e != want {
		t.Errorf("Parse of %.99q: got %.99q, %d, want %d", s, m, e, want)
	}
}

func wantPrint(t *testing.T, m api.Mailbox, want string) {
	t.Helper()
	if s := Print(m); s != want {
		t.Errorf("Print of %.99q: got %.99q, want %.99q", m, s, want)
	}
}

func wantCanonical(t *testing.T, m, want api.Mailbox) {
	t.Helper()
	if c := Canonical(table, m); c != want {
		t.Errorf("Canonical of %.99q: got %.99q, want %.99q", m, c, want)
	}
}

// wantSame holds two mailboxes against each other, both ways.
func wantSame(t *testing.T, m, n api.Mailbox, want bool) {
	t.Helper()
	if Same(table, m, n) != want || Same(table, n, m) != want {
		t.Errorf("Same of %.99q, %.99q: want %v", m, n, want)
	}
}

func wantDown(t *testing.T, m, want api.Mailbox, e api.Errno) {
	t.Helper()
	if d, got := Down(table, m); d != want || got != e {
		t.Errorf("Down of %.99q: got %.99q, %d, want %.99q, %d", m, d, got, want, e)
	}
}

// cut is s in tokens.
func cut(t *testing.T, s string) []api.Token {
	t.Helper()
	l, _, e := lex.Lex(s)
	if e != api.OK {
		t.Fatalf("%.99q: %d", s, e)
	}
	return l
}

// checkBox holds all that is told of m against the chapter's words, and what follows from them.
func checkBox(t *testing.T, m api.Mailbox) {
	t.Helper()
	wantRight(t, m, slowRight(table, m))
	wantPrint(t, m, slowPrint(m))
	c := slowCanonical(table, m)
	wantCanonical(t, m, c)
	wantCanonical(t, c, c)
	d, e := slowDown(table, m)
	wantDown(t, m, d, e)
	wantSame(t, m, m, slowRight(table, m) == api.OK)
	wantSame(t, m, c, slowSame(table, m, c))
	if slowRight(table, m) != api.OK {
		return
	}
	wantParse(t, Print(m), m)
	if e == api.OK {
		wantSame(t, m, d, true)
		wantDown(t, d, d, api.OK)
		if slowEight(Print(d)) {
			t.Errorf("Down of %.99q is not all ASCII: %.99q", m, d)
		}
	}
}

// checkText holds what is told of s, and of its tokens, against the chapter's words.
func checkText(t *testing.T, s string) {
	t.Helper()
	m, e := slowParse(table, s)
	if e == api.OK {
		wantParse(t, s, m)
		checkBox(t, m)
	} else {
		wantNone(t, s, e)
	}
	if l, _, e := lex.Lex(s); e == api.OK {
		m, n, is := slowTake(l)
		wantTake(t, l, m, n, is)
	}
}

// P13.1: what is right, each part with the ordinary ones of the other.
func TestRight(t *testing.T) {
	for _, local := range locals {
		for _, domain := range domains {
			wantRight(t, box(local, domain), api.OK)
		}
	}
}

// P13.1: each error, and that what is wrong with Local is told ahead of what is wrong with Domain.
func TestRightOfWrong(t *testing.T) {
	for _, local := range wrongLocals {
		for _, domain := range domains {
			wantRight(t, box(local.s, domain), local.e)
		}
		for _, domain := range wrongDomains {
			wantRight(t, box(local.s, domain.s), local.e)
		}
	}
	for _, domain := range wrongDomains {
		for _, local := range locals {
			wantRight(t, box(local, domain.s), domain.e)
		}
	}
}

// P13.1: every byte, alone and among others, in Local and in a literal.
func TestRightOfBytes(t *testing.T) {
	for n := range 256 {
		b := string([]byte{byte(n)})
		inLocal, inLiteral := api.OK, api.OK
		switch {
		case n >= 0x80:
			inLocal, inLiteral = api.ErrUtf, api.ErrForm
		case n != 9 && n < 0x20 || n == 0x7f:
			inLocal, inLiteral = api.ErrChar, api.ErrForm
		case n == 9 || n == 0x20 || n == 0x5b || n == 0x5c || n == 0x5d:
			inLiteral = api.ErrForm
		}
		for _, s := range []string{b, "a" + b, b + "a", "a" + b + "a", b + "\u00e4", "\u00e4" + b} {
			wantRight(t, box(s, "a"), inLocal)
			wantRight(t, box("a", "["+s+"]"), inLiteral)
		}
	}
}

// P13.1: a literal may be longer than a domain, and than a text.
func TestRightOfLongLiterals(t *testing.T) {
	for n := 1; n <= 1<<16; n *= 4 {
		wantRight(t, box("a", "["+a(n)+"]"), api.OK)
		wantRight(t, box("a", "["+a(n)+" ]"), api.ErrForm)
		wantRight(t, box("a", "["+a(n)), api.ErrForm)
	}
}

// P13.2: the chapter's example, and ordinary mailboxes with what goes on behind them.
func TestTake(t *testing.T) {
	for _, c := range []struct {
		s     string
		m     api.Mailbox
		count int
	}{
		{"\"a b\" (x)@ c.d", box("a b", "c.d"), 8},
		{"a@b", box("a", "b"), 3},
		{"a.b@c.d", box("a.b", "c.d"), 7},
		{"a.b.c.d@e", box("a.b.c.d", "e"), 9},
		{"\"\"@b", box("", "b"), 3},
		{"\"a\\\"\\\\\"@b", box("a\"\\", "b"), 3},
		{"a@[]", box("a", "[]"), 3},
		{"a@[1.2]", box("a", "[1.2]"), 3},
		{"\u00e4@b\u00fccher.c", box("\u00e4", "b\u00fccher.c"), 5},
		// What is wrong may be taken too.
		{a(65) + "@-", box(a(65), "-"), 3},
		// Behind it stands something else.
		{"a@b,c@d", box("a", "b"), 3},
		{"a@b>", box("a", "b"), 3},
		{"a@b ,c@d", box("a", "b"), 4},
		{"a@b (n)\r\n c@d", box("a", "b"), 6},
		{"a@b c", box("a", "b"), 4},
		{"a@b.c d", box("a", "b.c"), 6},
		{"a@b@c", box("a", "b"), 3},
		{"a@b.", box("a", "b"), 3},
		{"a@b. c", box("a", "b"), 3},
		{"a@b.(n)c", box("a", "b"), 3},
		{"a@b..c", box("a", "b"), 3},
		{"a@b.c..d", box("a", "b.c"), 5},
		{"a@b .c", box("a", "b"), 4},
		{"a@b.[c]", box("a", "b"), 3},
		{"a@b[c]", box("a", "b"), 3},
		{"a@b\"c\"", box("a", "b"), 3},
		{"a@[b].c", box("a", "[b]"), 3},
		{"a@[b]c", box("a", "[b]"), 3},
		{"a@[b][c]", box("a", "[b]"), 3},
	} {
		wantTake(t, cut(t, c.s), c.m, c.count, true)
	}
}

// P13.2: what begins with no mailbox.
func TestTakeOfNone(t *testing.T) {
	wantTake(t, nil, api.Mailbox{}, 0, false)
	wantTake(t, []api.Token{}, api.Mailbox{}, 0, false)
	for _, s := range []string{"", " ", "(n)", " (n) ", "a", "a.b", "a ", "@", "@b", "a@", "a@ (n)", "a.@b", ".a@b", "a..b@c", ".@b", "a. b@c", "a .b@c", "a.(n)b@c", "a(n).b@c", "a b@c", "a(n)b@c", "\"a\"b@c", "a\"b\"@c", "\"a\".b@c", "a.\"b\"@c", "\"a\" \"b\"@c", "[a]@b", "a@.b", "a@.", "a@@b", "@a@b", "a@\"b\"", "a@,", "<a@b>", ",a@b", "a,b@c", "a:b@c", ";", "a.b.@c", "a@(n).b", "a[b]@c"} {
		wantTake(t, cut(t, s), api.Mailbox{}, 0, false)
	}
}

// P13.2, P13.3: what does not count, at each place where it does not; at the others it does.
func TestOthers(t *testing.T) {
	for _, o := range others {
		for _, p := range others {
			for s, m := range map[string]api.Mailbox{
				o + "a" + p + "@b":                     box("a", "b"),
				"a@" + o + "b" + p:                     box("a", "b"),
				o + "a.b" + o + "@" + p + "c.d" + p:    box("a.b", "c.d"),
				o + "\"a\"" + o + "@" + p + "[b]" + p:  box("a", "[b]"),
				p + "\" \"" + o + "@" + o + "b.c" + o:  box(" ", "b.c"),
				p + "\u00e4" + p + "@" + o + "b" + "":  box("\u00e4", "b"),
				"\"(n)\"" + o + "@" + p + "[(n)]" + "": box("(n)", "[(n)]"),
			} {
				wantParse(t, s, m)
				l := cut(t, s)
				wantTake(t, l, m, len(l), true)
				wantTake(t, append(l, cut(t, ",c@d")...), m, len(l), true)
			}
		}
		if o == "" {
			continue
		}
		for _, s := range []string{"a" + o + ".b@c", "a." + o + "b@c", "a" + o + "." + o + "b@c", "a" + o + "b@c", "a@b" + o + ".c", "a@b." + o + "c", "a@b" + o + "c", o, o + "@b", "a" + o, "a" + o + "@" + o, "a@b.c." + o} {
			wantNone(t, s, api.ErrForm)
		}
	}
}

// P13.2: tokens that a text would never be cut into.
func TestTakeOfStrange(t *testing.T) {
	atom := func(text string) api.Token { return api.Token{Kind: api.TokAtom, Text: text} }
	sign := func(text string) api.Token { return api.Token{Kind: api.TokSign, Text: text} }
	of := func(kind int, text string) api.Token { return api.Token{Kind: kind, Text: text, At: math.MinInt} }
	white := of(api.TokWhite, "a@b")
	for _, c := range []struct {
		l     []api.Token
		m     api.Mailbox
		count int
	}{
		{[]api.Token{atom(""), sign("@"), atom("")}, api.Mailbox{}, 3},
		{[]api.Token{atom("."), sign("."), atom("@"), sign("@"), atom("a b")}, box("..@", "a b"), 5},
		{[]api.Token{of(api.TokAtom, "a"), of(api.TokSign, "@"), of(api.TokAtom, "[b]")}, box("a", "[b]"), 3},
		{[]api.Token{of(api.TokQuote, "\xff"), sign("@"), of(api.TokLiteral, "]\x00")}, box("\xff", "[]\x00]"), 3},
		{[]api.Token{of(api.TokQuote, a(5000)), sign("@"), atom(a(5000))}, box(a(5000), a(5000)), 3},
		{[]api.Token{atom("a"), sign("@"), atom("b"), atom("c")}, box("a", "b"), 3},
		{[]api.Token{atom("a"), sign("@"), atom("b"), sign("."), sign("."), atom("c")}, box("a", "b"), 3},
		{[]api.Token{atom("a"), sign("@"), atom("b"), sign(""), atom("c")}, box("a", "b"), 3},
		{[]api.Token{white, white, white, atom("a"), white, white, sign("@"), white, white, atom("b"), white, white, atom("c")}, box("a", "b"), 12},
		{[]api.Token{of(api.TokNote, ")"), of(api.TokNote, ""), atom("a"), sign("@"), atom("b"), of(api.TokWhite, "")}, box("a", "b"), 6},
	} {
		wantTake(t, c.l, c.m, c.count, true)
	}
	for _, l := range [][]api.Token{
		{atom("a@b")}, {sign("a@b")}, {atom("a"), atom("@"), atom("b")}, {atom("a"), atom("b"), sign("@"), atom("c")}, {atom("a"), sign("@@"), atom("b")}, {atom("a"), sign(""), atom("b")}, {atom("a"), sign("@."), atom("b")}, {atom("a"), sign("@")}, {atom("a"), sign("@"), sign("@"), atom("b")},
		{atom("a"), sign(".."), atom("b"), sign("@"), atom("c")}, {atom("a"), sign("."), of(api.TokQuote, "b"), sign("@"), atom("c")}, {atom("a"), atom("."), atom("b"), sign("@"), atom("c")}, {of(api.TokQuote, "a"), of(api.TokQuote, "b"), sign("@"), atom("c")}, {of(api.TokLiteral, "a"), sign("@"), atom("b")}, {atom("a"), sign("@"), of(api.TokQuote, "b")},
		{of(-1, "a"), sign("@"), atom("b")}, {of(6, "a"), sign("@"), atom("b")}, {of(6, " "), atom("a"), sign("@"), atom("b")}, {of(math.MaxInt, "a"), sign("@"), atom("b")}, {of(1<<32, "a"), sign("@"), atom("b")}, {atom("a"), of(1<<32+api.TokSign, "@"), atom("b")}, {atom("a"), sign("@"), of(math.MinInt, "b")},
	} {
		wantTake(t, l, api.Mailbox{}, 0, false)
	}
}

// P13.2: all short rows of tokens, and longer ones of what a mailbox is made of.
func TestTakeOfRows(t *testing.T) {
	tokens := map[string]api.Token{
		"a": {Kind: api.TokAtom, Text: "a"}, "q": {Kind: api.TokQuote, Text: "q"}, "l": {Kind: api.TokLiteral, Text: "l"}, "w": {Kind: api.TokWhite, Text: " "}, "n": {Kind: api.TokNote, Text: "n"}, ".": {Kind: api.TokSign, Text: "."}, "@": {Kind: api.TokSign, Text: "@"}, ",": {Kind: api.TokSign, Text: ","},
	}
	check := func(row string) {
		var l []api.Token
		for _, letter := range strings.Split(row, "") {
			l = append(l, tokens[letter])
		}
		m, n, is := slowTake(l)
		wantTake(t, l, m, n, is)
	}
	rows.Texts([]string{"a", "q", "l", "w", "n", ".", "@", ","}, 5, check)
	rows.Texts([]string{"a", ".", "@", "w"}, 8, check)
	rows.Texts([]string{".a", "w"}, 4, func(s string) {
		rows.Texts([]string{".a", "n"}, 4, func(r string) { check("a" + s + "@a" + r) })
	})
}

// P13.3: each way to write a mailbox.
func TestParse(t *testing.T) {
	for s, m := range map[string]api.Mailbox{
		"\"a b\" (x)@ c.d":     box("a b", "c.d"),
		"a@b":                  box("a", "b"),
		"Ann.B@C.D":            box("Ann.B", "C.D"),
		"\"a\"@b":              box("a", "b"),
		"\"a.b\"@c":            box("a.b", "c"),
		"\"\\a\\\"\\\\\\ \"@b": box("a\"\\ ", "b"),
		"\" \"@b":              box(" ", "b"),
		"\u00e4@B\u00fccher":   box("\u00e4", "B\u00fccher"),
		"a@b\u3002c":           box("a", "b\u3002c"),
		"a\u3002b@c":           box("a\u3002b", "c"),
		"a@xn--4ca":            box("a", "xn--4ca"),
		"a@[]":                 box("a", "[]"),
		"a@[IPv6:::1]":         box("a", "[IPv6:::1]"),
		"\"(n)\"@[(n)]":        box("(n)", "[(n)]"),
		a(64) + "@b":           box(a(64), "b"),
		"\"" + a(64) + "\"@b":  box(a(64), "b"),
		"\"" + strings.Repeat("\\a", 64) + "\"@b":                 box(a(64), "b"),
		"a@" + longDomain:                                         box("a", longDomain),
		"a@[" + a(1996) + "]":                                     box("a", "["+a(1996)+"]"),
		"a@b" + strings.Repeat(" ", 1997):                         box("a", "b"),
		strings.Repeat("(", 32) + strings.Repeat(")", 32) + "a@b": box("a", "b"),
	} {
		wantParse(t, s, m)
	}
}

// P13.3: the errors of lex, of what is no mailbox, and of what is one and wrong, in this order.
func TestParseOfWrong(t *testing.T) {
	deep := strings.Repeat("(", 33) + strings.Repeat(")", 33)
	for s, e := range map[string]api.Errno{
		// Lex.
		strings.Repeat(" ", 1998) + "a@b": api.ErrLong, "a@[" + a(1997) + "]": api.ErrLong, a(3000): api.ErrLong,
		"\xff": api.ErrUtf, "a@b\xff": api.ErrUtf, "\"\xc3\"@b": api.ErrUtf, "a@[\xff]": api.ErrUtf, "a@b(\x80)": api.ErrUtf, "\x01\xff": api.ErrUtf,
		deep + "a@b": api.ErrDeep, "a@b" + deep: api.ErrDeep, "a" + deep: api.ErrDeep,
		"\x00": api.ErrForm, "a@b\n": api.ErrForm, "\"a@b": api.ErrForm, "a@[b": api.ErrForm, "a@b (": api.ErrForm, "a@b)": api.ErrForm, "a@[b c]": api.ErrForm, "a@[[b]]": api.ErrForm, "\"\x01\"@b": api.ErrForm, "\"\r\n \"@b": api.ErrForm,
		// No mailbox, or more than one.
		"": api.ErrForm, " ": api.ErrForm, "a": api.ErrForm, "@": api.ErrForm, "a@": api.ErrForm, "@b": api.ErrForm, "a@b@c": api.ErrForm, "a@@b": api.ErrForm, ".a@b": api.ErrForm, "a.@b": api.ErrForm, "a..b@c": api.ErrForm, "a@.b": api.ErrForm, "a@b.": api.ErrForm, "a@b..c": api.ErrForm, "a@b,": api.ErrForm, "a@b,c@d": api.ErrForm, "<a@b>": api.ErrForm, "a b@c": api.ErrForm, "a@b c": api.ErrForm, "a@b (n) c": api.ErrForm, "a@[b].c": api.ErrForm, "a@[b]c": api.ErrForm, "a@b[c]": api.ErrForm, "\"a\"b@c": api.ErrForm, "a\"b\"@c": api.ErrForm, "a@\"b\"": api.ErrForm, "a@b;": api.ErrForm,
		// Wrong.
		"\"\"@b": api.ErrEmpty, a(65) + "@b": api.ErrLong, "\"" + a(65) + "\"@b": api.ErrLong, strings.Repeat("\u00e4", 33) + "@b": api.ErrLong,
		"a@-b": api.ErrDash, "a@b_c": api.ErrChar, "a@" + a(64): api.ErrLong, "a@" + strings.Repeat("b.", 32) + "b": api.ErrFull, "a@" + longDomain + "a": api.ErrLong, "a@\u0301": api.ErrMark, "a@\u05d0a": api.ErrBidi, "a@\u3002": api.ErrEmpty, "a@b\u3002\u3002c": api.ErrEmpty,
		// Two at once.
		strings.Repeat(" ", 2000) + "\xff": api.ErrLong, a(65) + "@b,": api.ErrForm, "\"\"@b.": api.ErrForm, "\"\"@-b": api.ErrEmpty, "a@-b,c": api.ErrForm, a(65) + "@-b": api.ErrLong, "a@-b\xff": api.ErrUtf, "a,@b" + deep: api.ErrDeep,
	} {
		wantNone(t, s, e)
	}
}

// P13.3: what must be quoted is, what need not is not; Domain is written as it is.
func TestPrint(t *testing.T) {
	for _, c := range []struct {
		m    api.Mailbox
		want string
	}{
		{box("a", "b"), "a@b"}, {box("a.b", "c.d"), "a.b@c.d"}, {box("a b", "c.d"), "\"a b\"@c.d"}, {box("Ann", "B"), "Ann@B"}, {box("\u00e4", "b\u00fccher"), "\u00e4@b\u00fccher"}, {box("a", "[X]"), "a@[X]"}, {box("!#$%&'*+-/=?^_`{|}~", "a"), "!#$%&'*+-/=?^_`{|}~@a"},
		{box(".", "b"), "\".\"@b"}, {box("a.", "b"), "\"a.\"@b"}, {box(".a", "b"), "\".a\"@b"}, {box("a..b", "c"), "\"a..b\"@c"}, {box("a@b", "c"), "\"a@b\"@c"}, {box("\"", "b"), "\"\\\"\"@b"}, {box("\\", "b"), "\"\\\\\"@b"}, {box("a\"b\\c", "d"), "\"a\\\"b\\\\c\"@d"}, {box("(n)", "b"), "\"(n)\"@b"}, {box("\t", "b"), "\"\t\"@b"},
		// What is not right is written likewise.
		{api.Mailbox{}, "\"\"@"}, {box("", "b"), "\"\"@b"}, {box("a", ""), "a@"}, {box("\xff", "\xff"), "\xff@\xff"}, {box("\x00", "\x00"), "\"\x00\"@\x00"}, {box("a", "b c"), "a@b c"}, {box("a", "@"), "a@@"}, {box("a", "[b"), "a@[b"}, {box("\r\n", ""), "\"\r\n\"@"}, {box(a(3000), a(3000)), a(3000) + "@" + a(3000)}, {box(strings.Repeat("\"", 3000), ""), "\"" + strings.Repeat("\\\"", 3000) + "\"@"},
	} {
		wantPrint(t, c.m, c.want)
	}
}

// P13.4: of what is right and of what is not.
func TestCanonical(t *testing.T) {
	for _, c := range []struct{ m, want api.Mailbox }{
		{box("Ann", "B\u00fccher"), box("ann", "xn--bcher-kva")}, {box("a", "b"), box("a", "b")}, {box("A.B", "C.D"), box("a.b", "c.d")}, {box("\uff21\u0308", "\uff21"), box("\u00e4", "a")}, {box("A", "B\u3002c"), box("a", "b.c")}, {box("A", "XN--4CA"), box("a", "xn--4ca")},
		// A Local that has no Name is as it is, whatever Domain is.
		{box("A b", "C"), box("A b", "c")}, {box("A b", "[X]"), box("A b", "[x]")}, {box("\u05d0A", "B"), box("\u05d0A", "b")}, {box("A\u00b7", "B"), box("A\u00b7", "b")}, {box("", "B"), box("", "b")}, {box("A\xff", "B"), box("A\xff", "b")}, {box("A\x00", "B"), box("A\x00", "b")}, {box("A B", "-C"), box("A B", "-C")},
		// A Name may be longer than a Local.
		{box(a(65)+"A", "B"), box(a(66), "b")},
		// A literal is small by ASCII alone, be it one or not.
		{box("A", "[X]"), box("a", "[x]")}, {box("A", "[AZ@[`az\u00c4]"), box("a", "[az@[`az\u00c4]")}, {box("A", "["), box("a", "[")}, {box("A", "[A"), box("a", "[a")}, {box("A", "[\xc3A\xff] Z"), box("a", "[\xc3a\xff] z")}, {box("A", "[\uff21A\u0308]"), box("a", "[\uff21a\u0308]")},
		// A Domain with an error is as it is.
		{box("A", ""), box("a", "")}, {box("A", "B-"), box("a", "B-")}, {box("A", "B..C"), box("a", "B..C")}, {box("A", "\u00c4.-"), box("a", "\u00c4.-")}, {box("A", "B\xff"), box("a", "B\xff")}, {box("A", " [X]"), box("a", " [X]")}, {api.Mailbox{}, api.Mailbox{}},
	} {
		wantCanonical(t, c.m, c.want)
		wantCanonical(t, c.want, c.want)
	}
}

// P13.4: what is one mailbox, and what is not.
func TestSame(t *testing.T) {
	for _, row := range [][]api.Mailbox{
		{box("ann", "b\u00fccher"), box("Ann", "B\u00dcCHER"), box("ANN", "xn--bcher-kva"), box("\uff21nn", "XN--BCHER-KVA"), box("ann", "bu\u0308cher")},
		{box("\u00e4", "a.b"), box("A\u0308", "A\u3002B"), box("\u00c4", "\uff21\uff0eb")},
		{box("A b", "[X]"), box("A b", "[x]")},
		{box("a b", "[X]"), box("a b", "[x]")},
		{box("a", "[\u00c4]")},
		{box("a", "[\u00e4]")},
		{box("a", "b.c")}, {box("a", "b.d")}, {box("b", "b.c")}, {box("a.b", "c")}, {box("a", "b")}, {box("a", "[b]")}, {box("a", "[]")},
		{box("\u05d0a", "b")}, {box("\u05d0A", "b")},
	} {
		for _, m := range row {
			for _, n := range row {
				wantSame(t, m, n, true)
			}
			for _, other := range []api.Mailbox{box("zoe", "b"), box("ann", "z"), box("\u00e4", "z.z"), box("zoe", "[x]"), box("ann b", "[x]")} {
				wantSame(t, m, other, false)
			}
		}
	}
	for _, m := range []api.Mailbox{box("a", "b.c"), box("a", "b.d"), box("b", "b.c"), box("a.b", "c"), box("a", "b"), box("a", "[b]"), box("A b", "b"), box("a b", "b"), box("a", "[\u00c4]"), box("a", "[\u00e4]")} {
		for _, n := range []api.Mailbox{box("a", "c.b"), box("\u00e4", "b"), box("a", "[bc]"), box("ab", "c"), box("A", "bc")} {
			wantSame(t, m, n, false)
		}
	}
	wantSame(t, box("A b", "c"), box("a b", "c"), false)
	wantSame(t, box("a", "[\u00c4]"), box("a", "[\u00e4]"), false)
	wantSame(t, box("a", "b"), box("a", "[b]"), false)
}

// P13.4: what is not right is the same as nothing, itself too.
func TestSameOfWrong(t *testing.T) {
	var wrong []api.Mailbox
	for _, local := range wrongLocals {
		wrong = append(wrong, box(local.s, "a"), box(local.s, "[a]"))
	}
	for _, domain := range wrongDomains {
		wrong = append(wrong, box("a", domain.s), box("", domain.s))
	}
	for _, m := range wrong {
		wantSame(t, m, m, false)
		wantSame(t, m, Canonical(table, m), false)
		wantSame(t, m, box("a", "a"), false)
		wantSame(t, m, api.Mailbox{}, false)
	}
}

// P13.5: what can be written by ASCII, its Domain otherwise where it must be, and what can't.
func TestDown(t *testing.T) {
	for _, c := range []struct {
		m, want api.Mailbox
		e       api.Errno
	}{
		{box("Ann", "B\u00fccher"), box("Ann", "xn--bcher-kva"), api.OK}, {box("Ann", "Mail.B"), box("Ann", "Mail.B"), api.OK}, {box("A b", "\u00c4.B"), box("A b", "xn--4ca.b"), api.OK}, {box("a", "b\u3002c"), box("a", "b.c"), api.OK}, {box("a", "XN--4CA"), box("a", "XN--4CA"), api.OK}, {box("\"\\", "\uff21"), box("\"\\", "a"), api.OK},
		{box("a", "[X]"), box("a", "[X]"), api.OK}, {box("A", "[]"), box("A", "[]"), api.OK}, {box("a\x7f", "[\x7f]"), box("a\x7f", "[\x7f]"), api.OK},
		{box("\u00e4", "a"), api.Mailbox{}, api.ErrChar}, {box("a\u0080", "a"), api.Mailbox{}, api.ErrChar}, {box("\u00e4", "b\u00fccher"), api.Mailbox{}, api.ErrChar}, {box("\u00e4", "[a]"), api.Mailbox{}, api.ErrChar}, {box("\uff21", "a"), api.Mailbox{}, api.ErrChar}, {box("a\xff", "a"), api.Mailbox{}, api.ErrChar}, {box(a(100)+"\x80", "a"), api.Mailbox{}, api.ErrChar},
		{box("a", "[\u00e4]"), api.Mailbox{}, api.ErrChar}, {box("a", "[\xff"), api.Mailbox{}, api.ErrChar}, {box("a", "[a]\x80"), api.Mailbox{}, api.ErrChar},
		// What is wrong otherwise: with Local nothing is, nor with what begins with [.
		{box("", "\u00e4"), box("", "xn--4ca"), api.OK}, {box("", "a"), box("", "a"), api.OK}, {box("\x00", "a"), box("\x00", "a"), api.OK}, {box(a(65), "\u00e4"), box(a(65), "xn--4ca"), api.OK}, {box("a", "["), box("a", "["), api.OK}, {box("a", "[ \x00"), box("a", "[ \x00"), api.OK}, {box("", "[[]]"), box("", "[[]]"), api.OK},
		// An error of Domain's comes behind that of Local.
		{box("\u00e4", "-"), api.Mailbox{}, api.ErrChar}, {box("\xff", ""), api.Mailbox{}, api.ErrChar}, {api.Mailbox{}, api.Mailbox{}, api.ErrEmpty},
	} {
		wantDown(t, c.m, c.want, c.e)
	}
	for _, domain := range wrongDomains {
		if domain.e != api.ErrForm {
			wantDown(t, box("a", domain.s), api.Mailbox{}, domain.e)
			wantDown(t, box("", domain.s), api.Mailbox{}, domain.e)
		}
	}
}

// lent is a string that is made of the bytes themselves, so that it shows when they change.
func lent(b []byte) string { return unsafe.String(unsafe.SliceData(b), len(b)) }

// P13.2 to P13.5: nothing that is answered shares memory with what was handed in, nor is that changed.
func TestAnswersAreNew(t *testing.T) {
	for _, m := range []api.Mailbox{box("a", "b"), box("a.b", "c.d"), box("Ann", "B\u00fccher"), box("A b", "[X]"), box("", ""), box("a b", "-"), box("\"", "\u00e4"), box("", "[")} {
		answers := func(m api.Mailbox) []api.Mailbox {
			down, _ := Down(table, m)
			parsed, _ := Parse(table, Print(m))
			return []api.Mailbox{Canonical(table, m), down, parsed, box(Print(m), "")}
		}
		want := answers(m)
		local, domain := []byte(m.Local), []byte(m.Domain)
		got := answers(box(lent(local), lent(domain)))
		if string(local) != m.Local || string(domain) != m.Domain {
			t.Errorf("%q: changed", m)
		}
		for _, bytes := range [][]byte{local, domain} {
			for at := range bytes {
				bytes[at] = 'X'
			}
		}
		if !slices.Equal(got, want) {
			t.Errorf("%q: what was handed in is kept: %q", m, got)
		}
	}
	for _, s := range []string{"a@b", "a.b@c.d", "\"a b\" (n)@ c.d", "a@[B]", "\u00e4@b\u00fccher"} {
		want, n, _ := Take(cut(t, s))
		bytes := []byte(s)
		parsed, _ := Parse(table, lent(bytes))
		l := cut(t, s)
		room := append(slices.Clone(l), cut(t, "x@y")...)[:len(l)]
		var texts [][]byte
		for at := range room {
			texts = append(texts, []byte(room[at].Text))
			room[at].Text = lent(texts[at])
		}
		taken, _, _ := Take(room)
		if !slices.Equal(room, l) || !slices.Equal(room[len(l):cap(room)][:3], cut(t, "x@y")) {
			t.Errorf("Take of %q: changed", s)
		}
		for _, b := range append(texts, bytes) {
			for at := range b {
				b[at] = 'X'
			}
		}
		if parsed != want || taken != want || n != len(l) {
			t.Errorf("%q: what was handed in is kept: %q, %q", s, parsed, taken)
		}
	}
}

// P13.6: many mailboxes printed and parsed, made canonical twice, and taken Down.
func TestFollows(t *testing.T) {
	for _, local := range locals {
		for _, domain := range domains {
			checkBox(t, box(local, domain))
		}
		for _, domain := range wrongDomains {
			checkBox(t, box(local, domain.s))
		}
	}
	for _, local := range wrongLocals {
		for _, domain := range []string{"A", "\u00c4", "[\u00c4]", "[A]", "[", ""} {
			checkBox(t, box(local.s, domain))
		}
	}
}

// P13.4: every pair of mailboxes out of some.
func TestSameOfPairs(t *testing.T) {
	var some []api.Mailbox
	for _, local := range []string{"a", "A", "\uff21", "\u00e4", "\u00c4", "A b", "a b", "", "\xff"} {
		for _, domain := range []string{"b", "B", "\u00e4", "\u00c4", "xn--4ca", "[b]", "[B]", "[\u00c4]", "-", "["} {
			some = append(some, box(local, domain))
		}
	}
	for _, m := range some {
		for _, n := range some {
			wantSame(t, m, n, slowSame(table, m, n))
		}
	}
}

// P13.1 to P13.6: all short texts of what a mailbox is written with.
func TestShortTexts(t *testing.T) {
	for _, c := range []struct {
		parts []string
		n     int
	}{
		{[]string{"a", ".", "@", " ", "(n)", "\"b\"", "[c]", "\u00c4", ",", "\"\""}, 5},
		{[]string{"a", ".", "@", "\r\n "}, 7},
		{[]string{"a@", "-", "A", "[", "]", "\xff", "\u3002", "\"", "\\"}, 5},
	} {
		rows.Texts(c.parts, c.n, func(s string) { checkText(t, s) })
	}
}

// P13.1, P13.4, P13.5: all short Locals and Domains of what counts in them.
func TestShortParts(t *testing.T) {
	rows.Texts([]string{"a", "A", ".", "\"", "\\", " ", "\x01", "\u00c4", "\xff"}, 4, func(s string) {
		checkBox(t, box(s, "b"))
	})
	rows.Texts([]string{"[", "]", "\\", "A", ".", " ", "-", "\u00c4", "\xff", "\u3002"}, 4, func(s string) {
		checkBox(t, box("a", s))
	})
}
