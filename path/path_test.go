package path

import (
	"slices"
	"strings"
	"testing"
	"unsafe"

	"pillarbox/api"
	"pillarbox/lex"
	"pillarbox/mailbox"
	"pillarbox/rows"
	"pillarbox/ucd"
)

// table is the one that all tests ask.
var table = ucd.New()

// nowhere is the Null path.
var nowhere = api.Path{Null: true}

// of is the path of a mailbox.
func of(local, domain string) api.Path {
	return api.Path{Box: api.Mailbox{Local: local, Domain: domain}}
}

// odd is a Null path with a mailbox that may be other than zero.
func odd(local, domain string) api.Path {
	return api.Path{Null: true, Box: api.Mailbox{Local: local, Domain: domain}}
}

// a tells n letters.
func a(n int) string { return strings.Repeat("a", n) }

// deep is n notes in one another.
func deep(n int) string { return strings.Repeat("(", n) + strings.Repeat(")", n) }

// longDomain has 253 bytes, with one more it has 254.
var longDomain = a(63) + "." + a(63) + "." + a(63) + "." + a(61)

// locals are right ones, with a right Domain.
var locals = []string{
	"a", "Ann", "a.b", "A.b.C", "a+b", "-", "0", "!#$%&'*+-/=?^_`{|}~", "\u00e4", "\u00c4", "a\u0308", "\uff21nn", "\u05d0", "\u3002", "\ufffd", "\U0010ffff",
	" ", "\t", "a b", ".", ".a", "a.", "a..b", "@", "a@b", "\"", "\\", "\\\"", "()", "a(b)", "[a]", ",", ";:",
	"<", ">", "<>", "><", "<a@b>", ">>", "a>b", "<postmaster>",
	"postmaster", "Postmaster", "POSTMASTER", "postmasters", "post.master", "post master",
	a(64), strings.Repeat("\"", 64), strings.Repeat("\u00c4", 32),
}

// domains are right ones.
var domains = []string{
	"a", "A", "b.c", "Mail.B", "a-b.0", "1.2.3.4", "xn--4ca", "XN--4CA.b", "xn--bcher-kva", "postmaster",
	"\u00e4", "\u00c4.B", "B\u00fccher", "b\u00fccher.de", "a\u0308", "a\u3002b", "a\uff0eb", "\uff21", "\u05d0", "\u1112\u1161\u11ab",
	a(63), longDomain,
	"[]", "[1.2.3.4]", "[IPv6:2001:DB8::1]", "[X]", "[\u00c4]", "[(]", "[<]", "[>]", "[<>]", "[><]", "[<a@b>]", "[@]", "[postmaster]",
}

// wrongBoxes are mailboxes of no right path, and why.
var wrongBoxes = []struct {
	local, domain string
	e             api.Errno
}{
	{"", "", api.ErrEmpty}, {"", "a", api.ErrEmpty}, {"a", "", api.ErrEmpty}, {"a", "b.", api.ErrEmpty}, {"a", "b..c", api.ErrEmpty}, {"a", "\u3002", api.ErrEmpty}, {"", "[a]", api.ErrEmpty},
	{a(65), "b", api.ErrLong}, {"a", a(64), api.ErrLong}, {"a", longDomain + "a", api.ErrLong}, {strings.Repeat("\u00e4", 33), "b", api.ErrLong},
	{"a\xff", "b", api.ErrUtf}, {"\x80", "b", api.ErrUtf}, {"a", "\xff", api.ErrUtf}, {"a", "b\xc3", api.ErrUtf},
	{"\x00", "b", api.ErrChar}, {"a\r\n b", "c", api.ErrChar}, {"\x7f", "b", api.ErrChar}, {"a", "b c", api.ErrChar}, {"a", "b_c", api.ErrChar}, {"a", "<b>", api.ErrChar}, {"a", ">", api.ErrChar},
	{"a", "-b", api.ErrDash}, {"a", "ab--c", api.ErrDash}, {"a", "\u0301", api.ErrMark}, {"a", "\u05d0a", api.ErrBidi}, {"a", "xn--4c", api.ErrPuny}, {"a", strings.Repeat("b.", 32) + "b", api.ErrFull},
	{"a", "[", api.ErrForm}, {"a", "[b", api.ErrForm}, {"a", "[b]c", api.ErrForm}, {"a", "[b c]", api.ErrForm}, {"a", "[\xff]", api.ErrForm}, {"a", "[[]]", api.ErrForm},
	// Two at once.
	{"", "-b", api.ErrEmpty}, {a(65), "-b", api.ErrLong}, {a(64) + "\xff", "b", api.ErrLong}, {"\x00\xff", "[", api.ErrUtf}, {"\x00", "-b", api.ErrChar},
	// A Domain that is not empty makes the postmaster's mailbox one as all others.
	{"postmaster", "-b", api.ErrDash}, {"postmaster", ".", api.ErrEmpty}, {"postmaster", "[", api.ErrForm}, {"POSTMASTER", " ", api.ErrChar},
}

// unlike are Locals that are nearly the postmaster's: all of them need a Domain.
var unlike = []string{
	"postmaste", "ostmaster", "postmasters", "apostmaster", "Post.Master", "post-master", "post master", "postmaster ", " postmaster", "postmaster.", ".postmaster", "\"postmaster\"", "postmaster@", "<postmaster>", "postmasterpostmaster", "p",
	// Only letters of ASCII are folded.
	"po\u017ftmaster", "\uff30ostmaster", "\uff50\uff4f\uff53\uff54\uff4d\uff41\uff53\uff54\uff45\uff52", "p\u00f6stmaster", "postmaster\u0301", "p\u043estmaster",
}

// spelt hands over all ways to write the postmaster's Local, by small and great letters.
func spelt(take func(string)) {
	const small = "postmaster"
	for n := range 1 << len(small) {
		said := []byte(small)
		for at := range said {
			if n>>at&1 == 1 {
				said[at] -= 'a' - 'A'
			}
		}
		take(string(said))
	}
}

func wantRight(t *testing.T, p api.Path, want api.Errno) {
	t.Helper()
	if e := Right(table, p); e != want {
		t.Errorf("Right of %#v: got %d, want %d", p, e, want)
	}
}

func wantParse(t *testing.T, s string, want api.Path) {
	t.Helper()
	if p, e := Parse(table, s); p != want || e != api.OK {
		t.Errorf("Parse of %.99q: got %#v, %d, want %#v", s, p, e, want)
	}
}

func wantNone(t *testing.T, s string, want api.Errno) {
	t.Helper()
	if p, e := Parse(table, s); p != (api.Path{}) || e != want {
		t.Errorf("Parse of %.99q: got %#v, %d, want %d", s, p, e, want)
	}
}

func wantPrint(t *testing.T, p api.Path, want string) {
	t.Helper()
	if s := Print(p); s != want {
		t.Errorf("Print of %#v: got %.99q, want %.99q", p, s, want)
	}
}

func wantCanonical(t *testing.T, p, want api.Path) {
	t.Helper()
	if c := Canonical(table, p); c != want {
		t.Errorf("Canonical of %#v: got %#v, want %#v", p, c, want)
	}
}

// wantSame holds two paths against each other, both ways.
func wantSame(t *testing.T, p, q api.Path, want bool) {
	t.Helper()
	if Same(table, p, q) != want || Same(table, q, p) != want {
		t.Errorf("Same of %#v, %#v: want %v", p, q, want)
	}
}

func wantDown(t *testing.T, p, want api.Path, e api.Errno) {
	t.Helper()
	if d, got := Down(table, p); d != want || got != e {
		t.Errorf("Down of %#v: got %#v, %d, want %#v, %d", p, d, got, want, e)
	}
}

// checkPath holds all that is told of p against the chapter's words, and what follows from them.
func checkPath(t *testing.T, p api.Path) {
	t.Helper()
	e := slowRight(table, p)
	wantRight(t, p, e)
	wantPrint(t, p, slowPrint(p))
	c := slowCanonical(table, p)
	wantCanonical(t, p, c)
	wantCanonical(t, c, c)
	wantSame(t, p, p, e == api.OK)
	wantSame(t, p, c, slowSame(table, p, c))
	wantSame(t, p, nowhere, p == nowhere)
	d, not := slowDown(table, p)
	wantDown(t, p, d, not)
	if e != api.OK {
		return
	}
	wantParse(t, Print(p), p)
	if not == api.OK {
		wantSame(t, p, d, true)
		wantDown(t, d, d, api.OK)
	}
}

// checkText holds what is told of s against the chapter's words.
func checkText(t *testing.T, s string) {
	t.Helper()
	p, e := slowParse(table, s)
	if e != api.OK {
		wantNone(t, s, e)
		return
	}
	wantParse(t, s, p)
	checkPath(t, p)
}

// P14.1: the Null path, the postmaster's, and those of right mailboxes.
func TestRight(t *testing.T) {
	wantRight(t, nowhere, api.OK)
	spelt(func(s string) { wantRight(t, of(s, ""), api.OK) })
	for _, local := range locals {
		for _, domain := range domains {
			wantRight(t, of(local, domain), api.OK)
		}
	}
}

// P14.1: a Null path with a mailbox is wrong, be that right or not, and the postmaster's.
func TestRightOfOddNull(t *testing.T) {
	for _, p := range []api.Path{odd("a", "b"), odd("a", ""), odd("", "b"), odd("\u00e4", "\u00e4"), odd("a", "[b]"), odd("postmaster", ""), odd("PostMaster", ""), odd("postmaster", "b"), odd(" ", ""), odd("", " "), odd("\x00", ""), odd("", "\xff")} {
		wantRight(t, p, api.ErrArg)
	}
	for _, c := range wrongBoxes[1:] {
		wantRight(t, odd(c.local, c.domain), api.ErrArg)
	}
}

// P14.1: each error of a mailbox, and of two at once the first one.
func TestRightOfWrong(t *testing.T) {
	for _, c := range wrongBoxes {
		wantRight(t, of(c.local, c.domain), c.e)
	}
	for _, s := range unlike {
		wantRight(t, of(s, ""), api.ErrEmpty)
		wantRight(t, of(s, "b"), api.OK)
	}
}

// P14.2: the chapter's examples, and each kind of path.
func TestParse(t *testing.T) {
	for s, p := range map[string]api.Path{
		"<>":                   nowhere,
		"<PostMaster>":         of("PostMaster", ""),
		"<a@b>":                of("a", "b"),
		"<Ann.B@C.D>":          of("Ann.B", "C.D"),
		"<\"a\"@b>":            of("a", "b"),
		"<\"a.b\"@c>":          of("a.b", "c"),
		"<\"a b\"@c.d>":        of("a b", "c.d"),
		"<\"a\\\"\\\\\"@b>":    of("a\"\\", "b"),
		"<\"(n)\"@[(n)]>":      of("(n)", "[(n)]"),
		"<a@[1.2.3.4]>":        of("a", "[1.2.3.4]"),
		"<a@[IPv6:::1]>":       of("a", "[IPv6:::1]"),
		"<a@[]>":               of("a", "[]"),
		"<\u00e4@B\u00fccher>": of("\u00e4", "B\u00fccher"),
		"<a@b\u3002c>":         of("a", "b\u3002c"),
		"<a@xn--4ca>":          of("a", "xn--4ca"),
		// The ends of a path in a quote, and in a literal.
		"<\">\"@b>":       of(">", "b"),
		"<\"<\"@b>":       of("<", "b"),
		"<\"<a@b>\"@c>":   of("<a@b>", "c"),
		"<a@[>]>":         of("a", "[>]"),
		"<a@[<]>":         of("a", "[<]"),
		"<\"a>b\"@[c>d]>": of("a>b", "[c>d]"),
		"<\"\\>\"@[<>]>":  of(">", "[<>]"),
		// The longest ones.
		"<" + a(64) + "@" + longDomain + ">":                                    of(a(64), longDomain),
		"<\"" + strings.Repeat("\\\"", 64) + "\"@b>":                            of(strings.Repeat("\"", 64), "b"),
		"<a@[" + a(1994) + "]>":                                                 of("a", "["+a(1994)+"]"),
		"<a@" + strings.Repeat("b.", 31) + "c>":                                 of("a", strings.Repeat("b.", 31)+"c"),
		"<" + strings.Repeat("a.", 31) + "bc@[" + strings.Repeat(">", 9) + "]>": of(strings.Repeat("a.", 31)+"bc", "["+strings.Repeat(">", 9)+"]"),
	} {
		wantParse(t, s, p)
	}
}

// P14.1 to P14.4: the postmaster's, however its letters are written.
func TestPostmaster(t *testing.T) {
	spelt(func(s string) {
		p := of(s, "")
		wantParse(t, "<"+s+">", p)
		wantPrint(t, p, "<"+s+">")
		wantCanonical(t, p, of("postmaster", ""))
		wantSame(t, p, of("postmaster", ""), true)
		wantSame(t, p, of("POSTMASTER", ""), true)
		wantDown(t, p, p, api.OK)
		// With a Domain it is a mailbox as all others.
		q := of(s, "B")
		wantParse(t, "<"+s+"@B>", q)
		wantPrint(t, q, "<"+s+"@B>")
		wantCanonical(t, q, of("postmaster", "b"))
		wantSame(t, p, q, false)
		// In a quote it is none.
		wantNone(t, "<\""+s+"\">", api.ErrForm)
		wantParse(t, "<\""+s+"\"@b>", of(s, "b"))
		// Nor is a longer atom, nor more than one token.
		for _, more := range []string{s + "s", "a" + s, s + "-", s + s, s + "\u0301", s + ".", "." + s, s + "@", "@" + s, s + ",", s + " ", " " + s, s + "(n)", "(n)" + s, s + "[]", s + "\"\"", s + ">", "<" + s, s + ">" + s, "<" + s + ">", s[:9], s[1:], s[:4] + "." + s[4:], s[:4] + " " + s[4:]} {
			wantNone(t, "<"+more+">", api.ErrForm)
		}
		wantNone(t, s, api.ErrForm)
		wantNone(t, "<"+s, api.ErrForm)
		wantNone(t, s+">", api.ErrForm)
	})
}

// P14.2, P14.3: what is nearly the postmaster's.
func TestUnlikePostmaster(t *testing.T) {
	for _, s := range unlike {
		wantNone(t, "<"+s+">", api.ErrForm)
		wantNone(t, Print(of(s, "")), api.ErrForm)
		wantPrint(t, of(s, ""), "<"+mailbox.Print(of(s, "").Box)+">")
		wantSame(t, of(s, ""), of(s, ""), false)
		wantSame(t, of(s, ""), of("postmaster", ""), false)
		_, e := slowDown(table, of(s, ""))
		wantDown(t, of(s, ""), api.Path{}, e)
	}
}

// P14.2: the ends are alone, twice, missing, or turned round.
func TestParseOfEnds(t *testing.T) {
	for _, s := range []string{
		"", "<", ">", "<<", ">>", "><", "<<>", "<>>", "<<>>", "<><>", "<>a", "a<>", "><>", "<><", ">a@b<", "<a@b", "a@b>", "a@b", "a", "<a@b<", ">a@b>", "<<a@b>", "<a@b>>", "<<a@b>>", "<a@b><a@b>", "<a@b>,", ",<a@b>", "<a@b>a", "a<a@b>", "\"<\"a@b>", "<a@b\">\"", "[<]a@b>", "<a@b[>]", "(<)a@b>", "<a@b(>)", "@", "@@", ",", ",,", "<,", ",>", "\"<>\"", "[<>]", "(<>)", "<postmaster", "postmaster>", "postmaster", "<postmaster>>", "<<postmaster>", "<postmaster>a", ":>", "<:",
	} {
		wantNone(t, s, api.ErrForm)
	}
}

// P14.2: blanks, folded lines and notes, at each place; all of them are wrong.
func TestParseOfBlanksAndNotes(t *testing.T) {
	for _, o := range []string{" ", "\t", "  \t", "\r\n ", " \r\n\t ", "()", "(n)", "(a@b)", "(>)", "(<)", " (n) ", "((a)(b))", "(\\))", deep(32)} {
		wantNone(t, o, api.ErrForm)
		for _, s := range []string{"<>", "<a@b>", "<postmaster>", "<\"a\"@[b]>", "<a.b@c.d>", "<\u00e4@\u00e4>"} {
			l, _, _ := lex.Lex(s)
			for at := range l {
				wantNone(t, s[:l[at].At]+o+s[l[at].At:], api.ErrForm)
			}
			wantNone(t, s+o, api.ErrForm)
			wantNone(t, o+s+o, api.ErrForm)
		}
	}
}

// P14.2: what stands between the ends and is no mailbox, or more than one.
func TestParseOfBetween(t *testing.T) {
	for _, s := range []string{
		"a", "Ann", "a.b", "\"a\"", "[a]", "@", "@b", "a@", ".", ",", ":", ";", "<", ">", "\u00e4", "\"\"", "[]",
		"a@b,", "a@b,c@d", "a@b@c", "a@b.", "a@b..c", "a@b;", "a@b:", "a@b<c", "a@b>c", "a@b[c]", "a@b\"c\"", "a@[b].c", "a@[b]c", "a@[b][c]", "a@[b]@c", "a@b,postmaster", "a@b\"\"",
		",a@b", "@a@b", "@a:b@c", "@a,@b:c@d", ".a@b", "a.@b", "a..b@c", "\"a\"b@c", "a\"b\"@c", "\"a\".b@c", "[a]@b", "a@.b", "a@@b", "a@\"b\"", "g:a@b;", "a<b@c>", ">a@b<", "><",
	} {
		wantNone(t, "<"+s+">", api.ErrForm)
	}
}

// P14.2: the errors of lex, of what is no path, and of what is one and wrong, in this order.
func TestParseOfWrong(t *testing.T) {
	for s, e := range map[string]api.Errno{
		// Lex.
		"<a@[" + a(1995) + "]>": api.ErrLong, a(2001): api.ErrLong, "<>" + strings.Repeat(" ", 1999): api.ErrLong, "<" + a(1999) + ">": api.ErrLong,
		"<\xff>": api.ErrUtf, "<\xff": api.ErrUtf, "\xff": api.ErrUtf, "<a@b\xc3>": api.ErrUtf, "<\"\x80\"@b>": api.ErrUtf, "<a@[\xed\xa0\x80]>": api.ErrUtf, "<a@b>\xff": api.ErrUtf, "\xff<a@b>": api.ErrUtf, "<postmaster\xff>": api.ErrUtf, "<\xc0\xbe>": api.ErrUtf,
		"<a@b" + deep(33) + ">": api.ErrDeep, deep(33) + "<a@b>": api.ErrDeep, "<>" + deep(33): api.ErrDeep, "<" + deep(33) + ">": api.ErrDeep,
		"<\x00>": api.ErrForm, "<a@b>\r\n": api.ErrForm, "<\x7f@b>": api.ErrForm, "<\"a@b>": api.ErrForm, "<a@[b>": api.ErrForm, "<a@b(>": api.ErrForm, "<a@b)>": api.ErrForm, "<a@b]>": api.ErrForm, "<a\\b@c>": api.ErrForm, "<a@[b c]>": api.ErrForm, "<\"\x01\"@b>": api.ErrForm, "<\"\r\n \"@b>": api.ErrForm,
		// Wrong mailboxes.
		"<\"\"@b>": api.ErrEmpty, "<a@\u3002>": api.ErrEmpty, "<a@b\u3002\u3002c>": api.ErrEmpty, "<" + a(65) + "@b>": api.ErrLong, "<\"" + a(65) + "\"@b>": api.ErrLong, "<a@" + a(64) + ">": api.ErrLong, "<a@" + longDomain + "a>": api.ErrLong,
		"<a@b_c>": api.ErrChar, "<a@-b>": api.ErrDash, "<a@b-.c>": api.ErrDash, "<a@ab--c>": api.ErrDash, "<a@\u0301>": api.ErrMark, "<a@\u05d0a>": api.ErrBidi, "<a@xn--4c>": api.ErrPuny, "<a@" + strings.Repeat("b.", 32) + "b>": api.ErrFull, "<postmaster@-b>": api.ErrDash,
		// Two at once.
		a(2000) + "\xff": api.ErrLong, "\x01\xff": api.ErrUtf, deep(33) + "\xff": api.ErrUtf, "a@b" + deep(33): api.ErrDeep, "<" + a(65) + "@b": api.ErrForm, "a@-b>": api.ErrForm, "< a@-b>": api.ErrForm, "<a@-b(n)>": api.ErrForm, "<a@-b,>": api.ErrForm, "<\"\"@b.>": api.ErrForm, "<" + a(65) + "@b,c@d>": api.ErrForm, "<a@-b> ": api.ErrForm, "<\"\"@-b>": api.ErrEmpty, "<" + a(65) + "@-b>": api.ErrLong, "<a@-b\xff>": api.ErrUtf,
	} {
		wantNone(t, s, e)
	}
}

// P14.2: every byte, at each end, ahead of a path, within, and behind it.
func TestParseOfBytes(t *testing.T) {
	for n := range 256 {
		b := string([]byte{byte(n)})
		for _, s := range []string{b, "<" + b, b + ">", "<" + b + ">", b + "a@b>", "<a@b" + b, b + "<a@b>", "<a@b>" + b, "<" + b + "a@b>", "<a" + b + "@b>", "<a@b" + b + ">", b + "<>", "<>" + b, "<postmaster" + b + ">", "<\"" + b + "\"@c>", "<a@[" + b + "]>"} {
			checkText(t, s)
		}
	}
}

// P14.3: each kind of path, right and not.
func TestPrint(t *testing.T) {
	for _, c := range []struct {
		p    api.Path
		want string
	}{
		{nowhere, "<>"}, {of("a", "b"), "<a@b>"}, {of("Ann.B", "C.D"), "<Ann.B@C.D>"}, {of("a b", "c.d"), "<\"a b\"@c.d>"}, {of("a", "[X]"), "<a@[X]>"}, {of("\u00c4", "B\u00fccher"), "<\u00c4@B\u00fccher>"}, {of("a>b", "[c>d]"), "<\"a>b\"@[c>d]>"}, {of("\"\\", "b"), "<\"\\\"\\\\\"@b>"},
		{of("postmaster", ""), "<postmaster>"}, {of("PostMaster", ""), "<PostMaster>"}, {of("PostMaster", "b"), "<PostMaster@b>"},
		// What is not right is written likewise.
		{odd("a", "b"), "<>"}, {odd("postmaster", ""), "<>"}, {odd("", "b"), "<>"}, {odd("\xff", "\xff"), "<>"},
		{api.Path{}, "<\"\"@>"}, {of("a", ""), "<a@>"}, {of("", "b"), "<\"\"@b>"}, {of("postmasters", ""), "<postmasters@>"}, {of("\uff30ostmaster", ""), "<\uff30ostmaster@>"}, {of("\xff", "\xff"), "<\xff@\xff>"}, {of("\x00", "> "), "<\"\x00\"@> >"}, {of(a(3000), a(3000)), "<" + a(3000) + "@" + a(3000) + ">"},
	} {
		wantPrint(t, c.p, c.want)
	}
}

// P14.4: of what is right and of what is not.
func TestCanonical(t *testing.T) {
	for _, c := range []struct{ p, want api.Path }{
		{nowhere, nowhere}, {odd("a", "b"), nowhere}, {odd("A", ""), nowhere}, {odd("", "\u00c4"), nowhere}, {odd("POSTMASTER", ""), nowhere}, {odd("\xff", "["), nowhere},
		{of("postmaster", ""), of("postmaster", "")}, {of("PostMaster", ""), of("postmaster", "")}, {of("POSTMASTER", "B"), of("postmaster", "b")},
		{of("Ann", "B\u00fccher"), of("ann", "xn--bcher-kva")}, {of("A b", "C"), of("A b", "c")}, {of("\uff21\u0308", "XN--4CA"), of("\u00e4", "xn--4ca")}, {of("A", "[\u00c4Z]"), of("a", "[\u00c4z]")},
		// What is not right.
		{api.Path{}, api.Path{}}, {of("A", ""), of("a", "")}, {of("", "B"), of("", "b")}, {of("A", "-B"), of("a", "-B")}, {of("A\xff", "B"), of("A\xff", "b")}, {of("A", "[Z"), of("a", "[z")}, {of("Postmasters", ""), of("postmasters", "")}, {of("Post master", ""), of("Post master", "")},
	} {
		wantCanonical(t, c.p, c.want)
		wantCanonical(t, c.want, c.want)
	}
}

// P14.4: what is one path, written in more than one way, and what is not.
func TestSame(t *testing.T) {
	all := [][]api.Path{
		{nowhere},
		{of("postmaster", ""), of("PostMaster", ""), of("POSTMASTER", "")},
		{of("postmaster", "b"), of("PostMaster", "B"), of("\uff30ostmaster", "b")},
		{of("postmaster", "postmaster")},
		{of("ann", "b\u00fccher"), of("Ann", "B\u00dcCHER"), of("ANN", "xn--bcher-kva"), of("\uff21nn", "XN--BCHER-KVA"), of("ann", "bu\u0308cher")},
		{of("\u00e4", "a.b"), of("A\u0308", "A\u3002B"), of("\u00c4", "\uff21\uff0eb")},
		{of("A b", "[X]"), of("A b", "[x]")}, {of("a b", "[X]"), of("a b", "[x]")},
		{of("a", "b")}, {of("b", "a")}, {of("a", "[b]")}, {of("a", "b.c")}, {of("a.b", "c")}, {of("a", "[\u00c4]")}, {of("a", "[\u00e4]")}, {of("<>", "a")}, {of("a", "[<>]")},
	}
	for i, row := range all {
		for j, other := range all {
			for _, p := range row {
				for _, q := range other {
					wantSame(t, p, q, i == j)
				}
			}
		}
	}
	for _, s := range [][2]string{{"<PostMaster>", "<postmaster>"}, {"<\"a.B\"@C>", "<A.b@c>"}, {"<\"\\a\"@\u00e4>", "<a@XN--4CA>"}} {
		p, _ := Parse(table, s[0])
		q, _ := Parse(table, s[1])
		wantSame(t, p, q, true)
	}
}

// P14.4: what is not right is the same as nothing, itself too.
func TestSameOfWrong(t *testing.T) {
	wrong := []api.Path{odd("a", "b"), odd("postmaster", ""), odd("", "b"), odd("a", "")}
	for _, c := range wrongBoxes {
		wrong = append(wrong, of(c.local, c.domain))
	}
	for _, p := range wrong {
		for _, q := range []api.Path{p, Canonical(table, p), nowhere, of("postmaster", ""), of("a", "b"), of("postmaster", "b"), {}} {
			wantSame(t, p, q, false)
		}
	}
}

// P14.4: what can be written by ASCII, and what can't.
func TestDown(t *testing.T) {
	for _, c := range []struct {
		p, want api.Path
		e       api.Errno
	}{
		{nowhere, nowhere, api.OK}, {of("postmaster", ""), of("postmaster", ""), api.OK}, {of("PostMaster", ""), of("PostMaster", ""), api.OK},
		{of("Ann", "B\u00fccher"), of("Ann", "xn--bcher-kva"), api.OK}, {of("PostMaster", "\u00c4"), of("PostMaster", "xn--4ca"), api.OK}, {of("Ann", "Mail.B"), of("Ann", "Mail.B"), api.OK}, {of("A b", "b\u3002c"), of("A b", "b.c"), api.OK}, {of("a", "[X]"), of("a", "[X]"), api.OK}, {of("a", "XN--4CA"), of("a", "XN--4CA"), api.OK},
		{of("\u00e4", "b"), api.Path{}, api.ErrChar}, {of("\u00e4", "-"), api.Path{}, api.ErrChar}, {of("a", "[\u00e4]"), api.Path{}, api.ErrChar}, {of("\uff30ostmaster", ""), api.Path{}, api.ErrChar}, {of("a\xff", "b"), api.Path{}, api.ErrChar},
		// What is not right: a Null path stays as it is, whatever it has.
		{odd("a", "b"), odd("a", "b"), api.OK}, {odd("\u00e4", "\u00c4"), odd("\u00e4", "\u00c4"), api.OK}, {odd("Postmaster", ""), odd("Postmaster", ""), api.OK}, {odd("", "\xff"), odd("", "\xff"), api.OK}, {odd("a", "-"), odd("a", "-"), api.OK}, {odd("", "B\u00fccher"), odd("", "B\u00fccher"), api.OK},
		{api.Path{}, api.Path{}, api.ErrEmpty}, {of("a", ""), api.Path{}, api.ErrEmpty}, {of("a", "-b"), api.Path{}, api.ErrDash}, {of("a", "b\xff"), api.Path{}, api.ErrUtf}, {of("postmaster", "b_"), api.Path{}, api.ErrChar}, {of("postmasters", ""), api.Path{}, api.ErrEmpty}, {of("", "\u00e4"), of("", "xn--4ca"), api.OK}, {of("a", "["), of("a", "["), api.OK},
	} {
		wantDown(t, c.p, c.want, c.e)
	}
}

// lent is a string that is made of the bytes themselves, so that it shows when they change.
func lent(b []byte) string { return unsafe.String(unsafe.SliceData(b), len(b)) }

// spoil makes all bytes other ones.
func spoil(b []byte) {
	for at := range b {
		b[at] = 'X'
	}
}

// P14.2 to P14.4: nothing that is answered shares memory with what was handed in, nor is that changed.
func TestAnswersAreNew(t *testing.T) {
	for _, p := range []api.Path{nowhere, odd("a", "b"), odd("", "b"), of("postmaster", ""), of("PostMaster", ""), of("a", "b"), of("Ann", "B\u00fccher"), of("A b", "[X]"), of("", ""), of("a", "-"), of("\u00e4", "[")} {
		answers := func(p api.Path) []api.Path {
			down, _ := Down(table, p)
			return []api.Path{Canonical(table, p), down, of(Print(p), "")}
		}
		want := answers(p)
		local, domain := []byte(p.Box.Local), []byte(p.Box.Domain)
		got := answers(api.Path{Null: p.Null, Box: api.Mailbox{Local: lent(local), Domain: lent(domain)}})
		if string(local) != p.Box.Local || string(domain) != p.Box.Domain {
			t.Errorf("%#v: changed", p)
		}
		spoil(local)
		spoil(domain)
		if !slices.Equal(got, want) {
			t.Errorf("%#v: what was handed in is kept: %#v", p, got)
		}
	}
	for _, s := range []string{"<>", "<a@b>", "<a.b@c.d>", "<\"a b\"@c.d>", "<a@[B]>", "<\u00e4@b\u00fccher>", "<PostMaster>", "<postmaster>"} {
		want, _ := slowParse(table, s)
		bytes := []byte(s)
		got, _ := Parse(table, lent(bytes))
		if string(bytes) != s {
			t.Errorf("%q: changed", s)
		}
		spoil(bytes)
		if got != want {
			t.Errorf("%q: what was handed in is kept: %#v", s, got)
		}
	}
}

// P14.5: many paths printed and parsed, and the Null path held against them.
func TestFollows(t *testing.T) {
	checkPath(t, nowhere)
	spelt(func(s string) { checkPath(t, of(s, "")) })
	for _, local := range locals {
		checkPath(t, of(local, ""))
		for _, domain := range domains {
			checkPath(t, of(local, domain))
			checkPath(t, odd(local, domain))
		}
	}
	for _, c := range wrongBoxes {
		checkPath(t, of(c.local, c.domain))
		checkPath(t, odd(c.local, c.domain))
	}
	for _, s := range unlike {
		checkPath(t, of(s, ""))
		checkPath(t, of(s, "b"))
		checkPath(t, odd(s, ""))
	}
}

// P14.5: what is right may be written in more bytes than a text has; then it can't be read (P12.2).
func TestPrintedTooLong(t *testing.T) {
	check := func(p api.Path) {
		wantRight(t, p, api.OK)
		wantSame(t, p, p, true)
		if len(Print(p)) > 2000 {
			wantNone(t, Print(p), api.ErrLong)
			return
		}
		wantParse(t, Print(p), p)
	}
	for _, n := range []int{1993, 1994, 1995, 1996, 1 << 16} {
		check(of("a", "["+a(n)+"]"))
	}
	// Each of these is nine bytes here, and one digit of the label's ASCII form.
	for n := range 55 {
		label := strings.Repeat("\u1100\u1161\u11a8", n+1)
		check(of(strings.Repeat("\"", 64), label+"."+label+"."+label+"."+label))
	}
}

// P14.4: every pair of paths out of some.
func TestSameOfPairs(t *testing.T) {
	some := []api.Path{nowhere}
	for _, local := range []string{"a", "A", "\u00e4", "A b", "", "\xff", "postmaster", "Postmaster", "\uff30ostmaster"} {
		for _, domain := range []string{"", "b", "B", "\u00c4", "xn--4ca", "[b]", "[B]", "-", "["} {
			some = append(some, of(local, domain), odd(local, domain))
		}
	}
	for _, p := range some {
		for _, q := range some {
			wantSame(t, p, q, slowSame(table, p, q))
		}
	}
}

// P14.1 to P14.5: all short texts of what a path is written with, with ends and without.
func TestShortTexts(t *testing.T) {
	for _, c := range []struct {
		parts []string
		n     int
	}{
		{[]string{"<", ">", "a", "@", ".", " ", "(n)", "\"b\"", "[c]", "PostMaster", "\u00c4", ","}, 4},
		{[]string{"<", ">", "a", "@", "\r\n "}, 6},
		{[]string{"<", ">", "a@b", "\"", "[", "]", "(", ")", "\\", "\xff", "-"}, 5},
		{[]string{"<", ">", "postmaster", "@a", "\"", "s"}, 5},
	} {
		rows.Texts(c.parts, c.n, func(s string) {
			checkText(t, s)
			checkText(t, "<"+s+">")
		})
	}
}

// P14.1, P14.3, P14.4: all short Locals and Domains of what counts in them, Null or not.
func TestShortParts(t *testing.T) {
	check := func(local, domain string) {
		checkPath(t, of(local, domain))
		checkPath(t, odd(local, domain))
	}
	rows.Texts([]string{"a", "post", "Master", ".", "\"", ">", " ", "\u00c4", "\xff"}, 3, func(s string) {
		check(s, "")
		check(s, "B")
	})
	rows.Texts([]string{"[", "]", "<", ">", "A", ".", " ", "-", "\u00c4", "\xff"}, 3, func(s string) {
		check("A", s)
		check("Postmaster", s)
	})
}
