package list

import (
	"slices"
	"strconv"
	"strings"
	"testing"
	"unsafe"

	"pillarbox/api"
	"pillarbox/lex"
	"pillarbox/mailbox"
	"pillarbox/rows"
	"pillarbox/ucd"
)

// table is the one that all tests ask.
var table = ucd.New()

// box is a mailbox.
func box(local, domain string) api.Mailbox { return api.Mailbox{Local: local, Domain: domain} }

// one is an entry of one mailbox.
func one(name, local, domain string) api.Address {
	return api.Address{Name: name, Boxes: []api.Mailbox{box(local, domain)}}
}

// loose is an entry that is no group, of as many mailboxes as one likes.
func loose(name string, boxes ...api.Mailbox) api.Address {
	return api.Address{Name: name, Boxes: boxes}
}

// group is one.
func group(name string, boxes ...api.Mailbox) api.Address {
	return api.Address{Name: name, Group: true, Boxes: boxes}
}

// of is a list.
func of(l ...api.Address) []api.Address { return l }

// a tells n letters.
func a(n int) string { return strings.Repeat("a", n) }

// deep is n notes in one another.
func deep(n int) string { return strings.Repeat("(", n) + strings.Repeat(")", n) }

// times is n times a text, with a comma between two.
func times(n int, s string) string {
	return strings.TrimSuffix(strings.Repeat(s+",", n), ",")
}

// some is n mailboxes.
func some(n int) []api.Mailbox {
	return slices.Repeat([]api.Mailbox{box("a", "b")}, n)
}

// names are such as may stand in a quote.
var names = []string{
	"a", "Ann", "A B", "A  B", " ", "  ", "\t", " A", "A ", ".", "a.b", "Ann B.", "a@b", "<a@b>", "<", ">", ",", ";", ":", "g:a@b;", "@", "(n)", "(", "[a]", "\"", "\\", "\\\"", "\"\"", "a\"b\\c", "\"a\"", "\u00e4", "\u65e5\u672c \u8a9e", "\u0080", "\u2028", "\ufffd", "\U0010ffff", "\u05d0a", "~", "!", a(300),
}

// wrongNames are those that may not, and why.
var wrongNames = []struct {
	s string
	e api.Errno
}{
	{"\xff", api.ErrUtf}, {"\x80", api.ErrUtf}, {"a\xc3", api.ErrUtf}, {"\xc0\x80", api.ErrUtf}, {"\xed\xa0\x80", api.ErrUtf}, {"\xf4\x90\x80\x80", api.ErrUtf}, {"A \xe4\xb8", api.ErrUtf}, {a(3000) + "\xff", api.ErrUtf},
	{"\x00", api.ErrChar}, {"\x01", api.ErrChar}, {"\n", api.ErrChar}, {"A\r\n B", api.ErrChar}, {"a\x1f", api.ErrChar}, {"\x7fa", api.ErrChar}, {"\u00e4\x08", api.ErrChar}, {"\\\x00", api.ErrChar}, {a(3000) + "\x7f", api.ErrChar},
	// Both at once.
	{"\x01\xff", api.ErrUtf}, {"\xff\x01", api.ErrUtf}, {"\x7f\xc3", api.ErrUtf},
}

// boxes are right mailboxes.
var boxes = []api.Mailbox{
	box("a", "b"), box("Ann.B", "C.D"), box("a b", "c"), box(",", "b"), box(";:<>", "b"), box("\"", "b"), box("\u00e4", "b\u00fccher"), box("a", "[1.2]"), box("a", "[,]"), box("a", "[;:<>@]"), box("(", "[(]"), box("postmaster", "[]"),
}

// wrongBoxes are those that are not, and why.
var wrongBoxes = []struct {
	m api.Mailbox
	e api.Errno
}{
	{api.Mailbox{}, api.ErrEmpty}, {box("", "b"), api.ErrEmpty}, {box("a", ""), api.ErrEmpty}, {box("a", "b..c"), api.ErrEmpty},
	{box(a(65), "b"), api.ErrLong}, {box("a", a(64)), api.ErrLong},
	{box("a\xff", "b"), api.ErrUtf}, {box("a", "\xff"), api.ErrUtf},
	{box("\x00", "b"), api.ErrChar}, {box("a", "b_c"), api.ErrChar},
	{box("a", "[b"), api.ErrForm}, {box("a", "[\xff]"), api.ErrForm},
	{box("a", "-b"), api.ErrDash}, {box("a", "\u0301"), api.ErrMark}, {box("a", "\u05d0a"), api.ErrBidi}, {box("a", "xn--4c"), api.ErrPuny}, {box("a", strings.Repeat("b.", 32)+"b"), api.ErrFull},
	// Two at once.
	{box("", "-b"), api.ErrEmpty}, {box("\x00\xff", "["), api.ErrUtf},
}

// others are rows of what does not count, the empty one first.
var others = []string{"", " ", "\t", "\r\n ", " \t\r\n\t ", "()", "(n)", " (n) ", "(a)(b)", "((a)@(b))", "(\\))(\")", "( a@b,c:;<> )\r\n (.)", deep(20)}

// same tells whether two lists are, one that is empty and none being so.
func same(l, m []api.Address) bool {
	return slices.EqualFunc(l, m, func(a, b api.Address) bool {
		return a.Name == b.Name && a.Group == b.Group && slices.Equal(a.Boxes, b.Boxes)
	})
}

func wantRight(t *testing.T, l []api.Address, want api.Errno) {
	t.Helper()
	if e := Right(table, l); e != want {
		t.Errorf("Right of %#v: got %d, want %d", l, e, want)
	}
}

func wantParse(t *testing.T, s string, want ...api.Address) {
	t.Helper()
	if l, e := Parse(table, s); e != api.OK || !same(l, want) {
		t.Errorf("Parse of %.300q: got %#v, %d, want %#v", s, l, e, want)
	}
}

func wantNone(t *testing.T, s string, want api.Errno) {
	t.Helper()
	if l, e := Parse(table, s); len(l) > 0 || e != want {
		t.Errorf("Parse of %.300q: got %#v, %d, want %d", s, l, e, want)
	}
}

func wantPrint(t *testing.T, l []api.Address, want string) {
	t.Helper()
	if s := Print(l); s != want {
		t.Errorf("Print of %#v: got %.300q, want %.300q", l, s, want)
	}
}

func wantBoxes(t *testing.T, l []api.Address, want ...api.Mailbox) {
	t.Helper()
	if b := Boxes(l); !slices.Equal(b, want) {
		t.Errorf("Boxes of %#v: got %.300q, want %.300q", l, b, want)
	}
}

// checkList holds all that is told of l against the chapter's words, and what follows from them.
func checkList(t *testing.T, l []api.Address) {
	t.Helper()
	e := slowRight(table, l)
	wantRight(t, l, e)
	s := slowPrint(l)
	wantPrint(t, l, s)
	wantBoxes(t, l, slowBoxes(l)...)
	switch {
	case e != api.OK:
	case len(s) > 2000:
		wantNone(t, s, api.ErrLong)
	default:
		wantParse(t, s, l...)
	}
}

// checkText holds what is told of s against the chapter's words.
func checkText(t *testing.T, s string) {
	t.Helper()
	l, e := slowParse(table, s)
	if e != api.OK {
		wantNone(t, s, e)
		return
	}
	wantParse(t, s, l...)
	checkList(t, l)
}

// P15.1: the chapter's example, and each kind of entry.
func TestParse(t *testing.T) {
	wantParse(t, "\"A B\" <a@b>, g: c@d;", one("A B", "a", "b"), group("g", box("c", "d")))
	for s, want := range map[string]api.Address{
		"a@b":                                one("", "a", "b"),
		"Ann.B@C.D":                          one("", "Ann.B", "C.D"),
		"\"a b\" (x)@ c.d":                   one("", "a b", "c.d"),
		"a@[1.2]":                            one("", "a", "[1.2]"),
		"<a@b>":                              one("", "a", "b"),
		"Ann <a@b>":                          one("Ann", "a", "b"),
		"Ann<a@b>":                           one("Ann", "a", "b"),
		"Ann B <a@b>":                        one("Ann B", "a", "b"),
		"Ann (x) \"B.\" C <a@b>":             one("Ann B. C", "a", "b"),
		"\u00c4 <\u00e4@b\u00fc>":            one("\u00c4", "\u00e4", "b\u00fc"),
		"g:;":                                group("g"),
		"g h:;":                              group("g h"),
		"\"g\":a@b;":                         group("g", box("a", "b")),
		"g:a@b,c@d;":                         group("g", box("a", "b"), box("c", "d")),
		"g: A B <a@b>, <c@d>, \"e f\"@[g] ;": group("g", box("a", "b"), box("c", "d"), box("e f", "[g]")),
		// A name keeps what is said in a quote, and has one blank for what stands between two words.
		"\"A  B\" <a@b>":              one("A  B", "a", "b"),
		"A  \t(n)  B <a@b>":           one("A B", "a", "b"),
		"A\"B\"C\"D\"\"E\" <a@b>":     one("A B C D E", "a", "b"),
		"\"A\" B \"C\" D <a@b>":       one("A B C D", "a", "b"),
		"A(n)B<a@b>":                  one("A B", "a", "b"),
		"\"a\\\"b\\\\c\\d\" <a@b>":    one("a\"b\\cd", "a", "b"),
		"\"\" <a@b>":                  one("", "a", "b"),
		"\"\"\"\" <a@b>":              one(" ", "a", "b"),
		"A \"\" <a@b>":                one("A ", "a", "b"),
		"\"\" A <a@b>":                one(" A", "a", "b"),
		"\"\" \"\" \"\":;":            group("  "),
		"\" \":;":                     group(" "),
		"\"\" g: a@b;":                group(" g", box("a", "b")),
		"\"=?\" =?x?= <a@b>":          one("=? =?x?=", "a", "b"),
		"\"Ann\" \"B\" (n) C : a@b ;": group("Ann B C", box("a", "b")),
		"A" + deep(32) + "<a@b>":      one("A", "a", "b"),
	} {
		wantParse(t, s, want)
		for other, entry := range map[string]api.Address{"k@l": one("", "k", "l"), "K <k@l>": one("K", "k", "l"), "k:;": group("k"), "k:m@n,L<k@l>;": group("k", box("m", "n"), box("k", "l"))} {
			wantParse(t, s+","+other, want, entry)
			wantParse(t, other+", "+s, entry, want)
			wantParse(t, s+" , "+other+"\t,"+s, want, entry, want)
		}
	}
}

// P15.1: what does not count, at each place where it does not; at the others it does.
func TestOthers(t *testing.T) {
	const places = "_Ann_\"B\"_<_a.b_@_c.d_>_,_g_\"h\"_:_e_@_f_,_Q_<_i_@_[j]_>_,_<_\"k\"_@_l_>_;_,_<_m_@_n_>_,_o_@_p_,_q_:_;_"
	want := of(one("Ann B", "a.b", "c.d"), group("g h", box("e", "f"), box("i", "[j]"), box("k", "l")), one("", "m", "n"), one("", "o", "p"), group("q"))
	parts := strings.Split(places, "_")
	for _, o := range others {
		wantParse(t, strings.Join(parts, o), want...)
		for at := range parts[1:] {
			wantParse(t, strings.Join(parts[:at+1], "")+o+strings.Join(parts[at+1:], ""), want...)
		}
		// Nothing, or nothing but a phrase, makes no list, nor is anything between two atoms of a mailbox.
		for _, s := range []string{o, o + "," + o, "a@b," + o, o + ",a@b", "a@b," + o + ",c@d", "Ann" + o, "<" + o + ">", "A<" + o + ">", o + ":" + o + ";", "g:" + o + ",a@b;", "g:a@b," + o + ";", "g:" + o, "g:a@b" + o, "g:A" + o + ";"} {
			wantNone(t, s, api.ErrForm)
		}
		if o != "" {
			for _, s := range []string{"a" + o + ".b@c", "a." + o + "b@c", "<a@b." + o + "c>", "a@b" + o + "c", "g:a@b" + o + ".c;", "a@b" + o + "A<c@d>"} {
				wantNone(t, s, api.ErrForm)
			}
		}
	}
}

// P15.1: commas that are missing, are twice there, or stand first or last, in a list and in a group.
func TestParseOfCommas(t *testing.T) {
	for _, s := range []string{
		",", ",,", ", ,", "a@b,", ",a@b", ",a@b,", "a@b,,c@d", "a@b, ,c@d", "a@b,(n),c@d", "a@b,c@d,", "a@b c@d", "a@b<c@d>", "<a@b><c@d>", "<a@b> <c@d>", "<a@b>c@d", "A <a@b> B <c@d>", "a@b g:;", "g:;a@b", "g:; <a@b>", "g:;h:;", "g:;;", "g:;,", ",g:;", "g:;,,h:;", "<a@b>,", ",<a@b>", "<a@b,>", "<,a@b>", "<a@b,c@d>", "A,B <a@b>", "A,<a@b>", "A<a@b>B,c@d", "g,h:;", "g,:;",
	} {
		wantNone(t, s, api.ErrForm)
	}
	for _, within := range []string{",", ",,", "a@b,", ",a@b", "a@b,,c@d", "a@b, ,c@d", "a@b c@d", "a@b<c@d>", "<a@b><c@d>", "<a@b>,", ",<a@b>", "<a@b,c@d>", "A,<a@b>", "(n),(n)"} {
		wantNone(t, "g:"+within+";", api.ErrForm)
		wantNone(t, "k@l,g:"+within+";,m@n", api.ErrForm)
	}
}

// P15.1: the other signs, alone, twice, missing, turned round, and one within another.
func TestParseOfSigns(t *testing.T) {
	for _, s := range []string{
		"<", ">", ":", ";", ".", "@", "<>", "><", "<<", ">>", "::", ";;", ":;", ";:", "<;", ":>", "<:>", ":<;", "<:;>", ":<>;",
		"A", "A B", "\"A\"", "A.B", "[a]", "A [b]", "A@", "@A", "A <>", "<A>", "A <B>", "<\"\">", "<postmaster>",
		"<a@b", "a@b>", ">a@b<", "<<a@b>>", "<<a@b>", "<a@b>>", "<a@b<", ">a@b>", "A <<a@b>>", "A <a@b", "A a@b>", "A >a@b<", "A a@b", "a@b A", "<a@b> A", "A <a@b> B", "<a@b>\"A\"", "<a@b>[c]", "<a@b>.", "<a@b>@", "<a@b>:", "<a@b>;", "a@b:", "a@b;", "a@b.", "a@b@c", "a@b c", "a@.b", ".a@b", "a.@b", "<A <a@b>>", "<A a@b>", "<a@b A>", "<@a:b@c>", "<@a,@b:c@d>", "<g:a@b;>",
		"g", "g:", "g;", ":g;", ";g:", "g;:", "g::;", "g:;;", "g:;:", "g:a@b", "g:a@b:", "g;a@b;", "g;a@b:", ":a@b;", "a@b;g:", "g:A;", "g:A B;", "g:<>;", "g:>;", "g:<a@b;", "g:a@b>;", "g:<a@b;>", "g:<<a@b>>;", "g<:a@b;>", "g<a@b>:;", "<g>:;", "<g>:a@b;", "g:a@b;c", "g:a@b;c@d", "g:a@b;<c@d>", "g:;A", "g:;\"\"", "g:;.", "g:;@", "a@b:c@d;", "a.b:;", "a@b:;", "[g]:;", "g@:;",
		// A group in a group.
		"g:h:;", "g:h:;;", "g:h:a@b;;", "g:a@b,h:c@d;;", "g:h:a@b;,c@d;", "g:h::;", "g:h i:;;", "g h:i:;",
	} {
		wantNone(t, s, api.ErrForm)
		wantNone(t, s+",k@l", api.ErrForm)
		wantNone(t, "k:;,"+s, api.ErrForm)
	}
}

// P15.1: a group has a phrase whose name is not empty; a mailbox need not.
func TestParseOfEmptyNames(t *testing.T) {
	for _, o := range others {
		for _, p := range others {
			for _, s := range []string{o + p, o + "\"\"" + p} {
				wantNone(t, s+":;", api.ErrForm)
				wantNone(t, s+":a@b;", api.ErrForm)
				wantNone(t, "k@l,"+s+":a@b,c@d;", api.ErrForm)
				wantParse(t, s+"<a@b>", one("", "a", "b"))
			}
			wantParse(t, o+"\"\""+p+"\"\":;", group(" "))
			wantParse(t, o+"\"\""+p+"a:;", group(" a"))
		}
	}
}

// P15.1: no dot stands in a phrase, but in a quote.
func TestParseOfDots(t *testing.T) {
	for _, s := range []string{".", "A.", ".A", "A.B", "A. B", "A .B", "A . B", "A.B.C", "A B.", "\"A\".", "\"A\".B", ".\"A\"", "\"\"."} {
		wantNone(t, s+" <a@b>", api.ErrForm)
		wantNone(t, s+":a@b;", api.ErrForm)
		wantNone(t, "g:"+s+"<a@b>;", api.ErrForm)
	}
	wantParse(t, "\"A.B\" <a@b>,\"A.\" B:;", one("A.B", "a", "b"), group("A. B"))
}

// P15.1: what begins as a phrase does, and as a plain address does.
func TestParseOfBoth(t *testing.T) {
	for _, word := range []struct{ s, said string }{{"a", "a"}, {"\"a\"", "a"}, {"\"a b\"", "a b"}, {"\"<\"", "<"}, {"\"\\\"\"", "\""}, {"\u00e4", "\u00e4"}, {"a@b", ""}} {
		for _, o := range others {
			if word.said == "" {
				wantNone(t, word.s+o+"<c@d>", api.ErrForm)
				wantNone(t, word.s+o+":c@d;", api.ErrForm)
				continue
			}
			wantParse(t, word.s+o+"@b", one("", word.said, "b"))
			wantParse(t, word.s+o+"<c@d>", one(word.said, "c", "d"))
			wantParse(t, word.s+o+":c@d;", group(word.said, box("c", "d")))
			wantNone(t, word.s+o, api.ErrForm)
			wantNone(t, word.s+o+"\"b\"@c", api.ErrForm)
			wantNone(t, word.s+o+"@b<c@d>", api.ErrForm)
			wantNone(t, word.s+o+"@b:c@d;", api.ErrForm)
			// The name of one entry is not that of the next one.
			wantParse(t, word.s+o+"<c@d>,"+word.s+"@b,<e@f>", one(word.said, "c", "d"), one("", word.said, "b"), one("", "e", "f"))
		}
	}
}

// P15.1: the names of a group's mailboxes don't count.
func TestParseOfNamesInGroups(t *testing.T) {
	for _, name := range []string{"", "Q", "Q R", "\"\"", "\"Q\"", "\"g\"", "g"} {
		wantParse(t, "g:"+name+"<a@b>;", group("g", box("a", "b")))
		wantParse(t, "g h:"+name+"<a@b>,c@d,"+name+"<e@f>;,<k@l>", group("g h", box("a", "b"), box("c", "d"), box("e", "f")), one("", "k", "l"))
		wantParse(t, "\"G\":c@d,"+name+"<a@b>;,H:;", group("G", box("c", "d"), box("a", "b")), group("H"))
	}
}

// P15.1: signs in quotes, notes and literals are none.
func TestParseOfQuotedSigns(t *testing.T) {
	for _, sign := range []string{"<", ">", ":", ";", ",", "@", ".", "<a@b>", ",c@d", ":;", ";,"} {
		wantParse(t, "\""+sign+"\"<a@b>", one(sign, "a", "b"))
		wantParse(t, "\""+sign+"\":a@b;", group(sign, box("a", "b")))
		wantParse(t, "\""+sign+"\"@b,c@d", one("", sign, "b"), one("", "c", "d"))
		wantParse(t, "a@["+sign+"],c@d", one("", "a", "["+sign+"]"), one("", "c", "d"))
		wantParse(t, "A("+sign+")<("+sign+")a@b("+sign+")>("+sign+"),c@d", one("A", "a", "b"), one("", "c", "d"))
		wantParse(t, "g:\""+sign+"\"@["+sign+"],\""+sign+"\"<a@b>("+sign+");("+sign+")", group("g", box(sign, "["+sign+"]"), box("a", "b")))
	}
}

// P15.1: as many mailboxes as may be, and one more, alone, with names, in one group and in several.
func TestParseOfMany(t *testing.T) {
	for _, n := range []int{99, 100, 101} {
		for _, c := range []struct {
			s    string
			want []api.Address
		}{
			{times(n, "a@b"), slices.Repeat(of(one("", "a", "b")), n)},
			{times(n, "A<a@b>"), slices.Repeat(of(one("A", "a", "b")), n)},
			{"g:" + times(n, "a@b") + ";", of(group("g", some(n)...))},
			{"g:" + times(n-1, "a@b") + ";,a@b", of(group("g", some(n-1)...), one("", "a", "b"))},
			{"<a@b>,g:" + times(50, "Q <a@b>") + ";,h:;,i:" + times(n-51, "a@b") + ";", of(one("", "a", "b"), group("g", some(50)...), group("h"), group("i", some(n-51)...))},
			{times(n, "g:a@b;"), slices.Repeat(of(group("g", box("a", "b"))), n)},
			// Groups of none do not count.
			{times(n, "a@b,g:;"), slices.Repeat(of(one("", "a", "b"), group("g")), n)},
		} {
			if n <= api.MaxBoxes {
				wantParse(t, c.s, c.want...)
			} else {
				wantNone(t, c.s, api.ErrFull)
			}
		}
	}
	wantParse(t, times(500, "g:;"), slices.Repeat(of(group("g")), 500)...)
	wantNone(t, times(500, "a@b"), api.ErrFull)
}

// P15.1: each error of lex and of a mailbox, and of two at once the first one.
func TestParseOfWrong(t *testing.T) {
	for s, e := range map[string]api.Errno{
		"a@b" + strings.Repeat(" ", 1998): api.ErrLong, times(501, "a@b"): api.ErrLong, a(2001): api.ErrLong, "g:;" + deep(999): api.ErrLong,
		"\xff": api.ErrUtf, "a@b\xff": api.ErrUtf, "A\xc3 <a@b>": api.ErrUtf, "\"\x80\" <a@b>": api.ErrUtf, "g\xff:;": api.ErrUtf, "g:\xed\xa0\x80@b;": api.ErrUtf, "a@b,(\xf4\x90\x80\x80)c@d": api.ErrUtf, "a@[\xc0\x80]": api.ErrUtf,
		deep(33): api.ErrDeep, deep(33) + "a@b": api.ErrDeep, "g:" + deep(33) + ";": api.ErrDeep, "A <a@b>" + deep(33): api.ErrDeep,
		"(": api.ErrForm, "\"": api.ErrForm, "[": api.ErrForm, ")": api.ErrForm, "]": api.ErrForm, "\\": api.ErrForm, "\x00": api.ErrForm, "a@b\r\n": api.ErrForm, "a@b\r\n,c@d": api.ErrForm, "A\nB <a@b>": api.ErrForm, "\"A\r\n B\" <a@b>": api.ErrForm, "\"\x01\":;": api.ErrForm, "g:\x7f;": api.ErrForm, "a@b,\"": api.ErrForm, "A\\ <a@b>": api.ErrForm,
		// Two at once: what lex tells, what is no list, what is too much, and what is wrong with a mailbox, in this order.
		a(2001) + "\xff": api.ErrLong, deep(1001): api.ErrLong, "\x01\xff": api.ErrUtf, deep(33) + "\xff": api.ErrUtf, ",\xff": api.ErrUtf, deep(33) + ",": api.ErrDeep, "\x00" + deep(33): api.ErrForm, "a@-b,\xff": api.ErrUtf, "a@-b," + deep(33): api.ErrDeep, times(101, "a@b") + "\xff": api.ErrUtf, times(101, "a@b") + deep(33): api.ErrDeep,
		times(101, "a@b") + ",": api.ErrForm, "g:" + times(101, "a@b"): api.ErrForm, times(101, "a@b") + ",\"\":;": api.ErrForm, "a@-b,": api.ErrForm, ",a@-b": api.ErrForm, "g:a@-b": api.ErrForm, "<a@-b": api.ErrForm, "a@-b,A": api.ErrForm, "a@-b,:;": api.ErrForm,
		times(101, "a@-b"): api.ErrFull, "a@-b," + times(100, "a@b"): api.ErrFull, times(100, "a@b") + ",a@-b": api.ErrFull, "g:" + times(60, "\"\"@b") + ";,h:" + times(41, "a@b") + ";": api.ErrFull, times(99, "a@b") + ",a@-b": api.ErrDash, "g:a@-b;," + times(99, "a@b"): api.ErrDash,
	} {
		wantNone(t, s, e)
	}
}

// P15.1: each error of a mailbox that can be read, wherever that stands, and of two the first one.
func TestParseOfWrongBoxes(t *testing.T) {
	wrong := []struct {
		s string
		e api.Errno
	}{
		{"\"\"@b", api.ErrEmpty}, {"a@b\u3002", api.ErrEmpty}, {a(65) + "@b", api.ErrLong}, {"a@" + a(64), api.ErrLong}, {"a@b_c", api.ErrChar}, {"a@-b", api.ErrDash}, {"a@\u0301", api.ErrMark}, {"a@\u05d0a", api.ErrBidi}, {"a@xn--4c", api.ErrPuny}, {"a@" + strings.Repeat("b.", 32) + "b", api.ErrFull}, {"\"\"@-b", api.ErrEmpty},
	}
	for _, c := range wrong {
		for _, s := range []string{c.s, "<" + c.s + ">", "A <" + c.s + "> (n)", "k@l, " + c.s, c.s + ", k@l", "k@l, g:" + c.s + ";", "g:k@l," + c.s + ";", "g:" + c.s + ",k@l;", "g:A<" + c.s + ">;, k@l", "g:;,\"h\":k@l;," + c.s} {
			wantNone(t, s, c.e)
		}
		for _, d := range wrong {
			for _, s := range []string{c.s + "," + d.s, "A <" + c.s + ">,g:" + d.s + ";", "g:" + c.s + ",B <" + d.s + ">;", "g:k@l," + c.s + ";,h:" + d.s + ";", "k@l,g:;,h:" + c.s + ";,<" + d.s + ">"} {
				wantNone(t, s, c.e)
			}
		}
	}
}

// P15.1: every byte, at each place of a list.
func TestParseOfBytes(t *testing.T) {
	for n := range 256 {
		b := string([]byte{byte(n)})
		for _, s := range []string{"Ann B <a@b>, g:c@d, \"Q\" <e@[f]>;", "a@b", "g:;"} {
			for at := range len(s) + 1 {
				checkText(t, s[:at]+b+s[at:])
			}
			for at := range len(s) {
				checkText(t, s[:at]+b+s[at+1:])
			}
		}
	}
}

// P15.1: lists of all kinds of entries, each token of them left out, twice there, turned round with the next one, and each sign put ahead of it.
func TestParseOfChanged(t *testing.T) {
	for _, s := range []string{
		"\"A B\" <a@b>, g: c@d;",
		"Ann \"B.\" <a@b> (x), <c@d>, g h:e@f, Q <i@j>;, k@l",
		"g:;,h:a@b;, \"\" <\"c\"@[d]>",
		"(n)<a.b@c.d>(n),\"\" g:\"Q\"<e@f>(n),(n)h@i(n);(n)",
		"A\"B\"C:;",
	} {
		checkText(t, s)
		l, _, _ := lex.Lex(s)
		var parts []string
		for _, k := range l {
			parts = append(parts, lex.Source(k))
		}
		for at, part := range parts {
			before, behind := strings.Join(parts[:at], ""), strings.Join(parts[at+1:], "")
			checkText(t, before+behind)
			checkText(t, before+part+part+behind)
			checkText(t, behind+part+before)
			if at+1 < len(parts) {
				checkText(t, before+parts[at+1]+part+strings.Join(parts[at+2:], ""))
			}
			for _, put := range []string{"<", ">", ":", ";", ",", "@", ".", "a", "\"\"", "\"q\"", "[l]", " ", "(n)"} {
				checkText(t, before+put+part+behind)
				checkText(t, before+put+behind)
			}
		}
	}
}

// P15.2: what is right.
func TestRight(t *testing.T) {
	wantRight(t, of(one("A B", "a", "b"), group("g", box("c", "d"))), api.OK)
	for _, m := range boxes {
		wantRight(t, of(loose("", m)), api.OK)
		for _, name := range names {
			l := of(loose(name, m), group(name), group(name, m), group(name, m, m), loose("", m))
			wantRight(t, l, api.OK)
			for at := range l {
				wantRight(t, l[at:at+1], api.OK)
			}
		}
	}
}

// P15.2: entries that may not be, wherever one stands, whatever else is wrong.
func TestRightOfShapes(t *testing.T) {
	wantRight(t, nil, api.ErrArg)
	wantRight(t, []api.Address{}, api.ErrArg)
	for _, wrong := range []api.Address{
		{}, loose("A"), loose("", some(2)...), loose("A", some(2)...), loose("", some(101)...), loose("\xff"), loose("\x01"), loose("\x01", some(2)...), loose("", box("", ""), box("", "")),
		group(""), group("", box("a", "b")), group("", some(2)...), group("", some(101)...), group("", box("", "")), {Group: true, Boxes: []api.Mailbox{}}, {Boxes: []api.Mailbox{}},
	} {
		wantRight(t, of(wrong), api.ErrArg)
		for _, other := range []api.Address{one("", "a", "b"), one("A", "a", "b"), group("g"), group("g", some(3)...), one("\xff", "a", "b"), one("\x01", "a", "b"), group("\xff"), group("g", some(101)...), one("", "", ""), group("g", box("a", "-b")), wrong} {
			wantRight(t, of(wrong, other), api.ErrArg)
			wantRight(t, of(other, wrong), api.ErrArg)
			wantRight(t, of(other, wrong, other), api.ErrArg)
		}
	}
}

// P15.2: names that may not be, of each kind of entry, whatever is wrong with mailboxes.
func TestRightOfNames(t *testing.T) {
	for _, c := range wrongNames {
		for _, wrong := range []api.Address{one(c.s, "a", "b"), group(c.s), group(c.s, some(2)...), one(c.s, "", ""), group(c.s, box("a", "-b")), group(c.s, some(101)...)} {
			wantRight(t, of(wrong), c.e)
			for _, other := range []api.Address{one("", "a", "b"), one("A", "a", "b"), group("g"), group("g", some(101)...), one("", "", ""), one("B", "a", "-b")} {
				wantRight(t, of(wrong, other), c.e)
				wantRight(t, of(other, wrong), c.e)
			}
			// That a name is not all characters is asked of all entries first.
			for _, d := range wrongNames {
				want := api.ErrChar
				if c.e == api.ErrUtf || d.e == api.ErrUtf {
					want = api.ErrUtf
				}
				wantRight(t, of(wrong, one(d.s, "a", "b")), want)
				wantRight(t, of(group(d.s), one("", "a", "b"), wrong), want)
			}
		}
	}
}

// P15.2: every byte in a name, alone and among others.
func TestRightOfBytes(t *testing.T) {
	for n := range 256 {
		b := string([]byte{byte(n)})
		want := api.OK
		switch {
		case n >= 0x80:
			want = api.ErrUtf
		case n != 9 && n < 0x20 || n == 0x7f:
			want = api.ErrChar
		}
		for _, s := range []string{b, "a" + b, b + "a", "a" + b + "a", "\u00e4" + b, b + "\u00e4", b + b} {
			wantRight(t, of(one(s, "a", "b")), want)
			wantRight(t, of(one("", "a", "b"), group(s)), want)
			checkList(t, of(one(s, "a", "b"), group(s, some(2)...)))
		}
	}
}

// P15.2: as many mailboxes as may be, and one more, be they right or not.
func TestRightOfMany(t *testing.T) {
	for _, n := range []int{98, 99, 100, 101, 102, 1000} {
		want := api.OK
		if n > 100 {
			want = api.ErrFull
		}
		for _, l := range [][]api.Address{
			slices.Repeat(of(one("", "a", "b")), n), slices.Repeat(of(one("A", "a", "b")), n), of(group("g", some(n)...)), of(group("g", some(n-1)...), one("", "a", "b")), of(group("g", some(n-90)...), group("h"), group("i", some(90)...)), slices.Repeat(of(group("g", box("a", "b"))), n), slices.Repeat(of(group("g"), one("", "a", "b")), n),
		} {
			wantRight(t, l, want)
		}
		for _, wrong := range wrongBoxes {
			late := wrong.e
			if n >= 100 {
				late = api.ErrFull
			}
			wantRight(t, of(loose("A", wrong.m), group("g", some(n)...)), late)
			wantRight(t, of(group("g", some(n)...), loose("", wrong.m)), late)
			wantRight(t, of(group("g", append(some(n), wrong.m)...)), late)
		}
	}
	wantRight(t, slices.Repeat(of(group("g")), 1000), api.OK)
}

// P15.2: each error of a mailbox, wherever that stands, and of two the first one.
func TestRightOfWrongBoxes(t *testing.T) {
	m := box("k", "l")
	for _, c := range wrongBoxes {
		for _, l := range [][]api.Address{
			of(loose("", c.m)), of(loose("A", c.m)), of(group("g", c.m)), of(group("g", m, c.m)), of(group("g", c.m, m)), of(loose("", m), loose("", c.m)), of(loose("A", c.m), loose("", m)), of(group("g"), group("h", m, m), group("i", m, c.m), loose("", m)),
		} {
			wantRight(t, l, c.e)
		}
		for _, d := range wrongBoxes {
			for _, l := range [][]api.Address{
				of(group("g", c.m, d.m)), of(loose("", c.m), loose("", d.m)), of(loose("A", c.m), group("g", d.m)), of(group("g", m, c.m), loose("B", d.m)), of(loose("", m), group("g"), group("h", m, c.m), group("i", d.m)),
			} {
				wantRight(t, l, c.e)
			}
		}
	}
}

// P15.3: each kind of entry, right and not.
func TestPrint(t *testing.T) {
	for _, c := range []struct {
		l    []api.Address
		want string
	}{
		{of(one("A B", "a", "b"), group("g", box("c", "d"))), "\"A B\" <a@b>, \"g\":c@d;"},
		{of(one("", "a", "b")), "a@b"}, {of(one("", "a b", "c")), "\"a b\"@c"}, {of(one("", "a", "[B]")), "a@[B]"}, {of(one("", "\u00c4", "B\u00fc")), "\u00c4@B\u00fc"},
		{of(one("Ann", "a", "b")), "\"Ann\" <a@b>"}, {of(one("a\"b\\c", "a", "b")), "\"a\\\"b\\\\c\" <a@b>"}, {of(one(" ", "a", "b")), "\" \" <a@b>"}, {of(one("\u00e4", "", "")), "\"\u00e4\" <\"\"@>"},
		{of(group("g")), "\"g\":;"}, {of(group("g h", box("a", "b"))), "\"g h\":a@b;"}, {of(group("\"", box("a", "b"), box(",", "d"), box("e", "f"))), "\"\\\"\":a@b, \",\"@d, e@f;"},
		{of(one("", "a", "b"), one("", "c", "d")), "a@b, c@d"}, {of(one("", "a", "b"), one("C", "c", "d"), group("g"), group("h", some(2)...), one("", "k", "l")), "a@b, \"C\" <c@d>, \"g\":;, \"h\":a@b, a@b;, k@l"},
		// What is not right is written likewise.
		{nil, ""}, {[]api.Address{}, ""}, {of(api.Address{}), ""}, {of(api.Address{}, api.Address{}), ", "}, {of(api.Address{}, one("", "a", "b"), api.Address{}), ", a@b, "},
		{of(loose("A")), "\"A\" <>"}, {of(loose("A", box("a", "b"), box("c", "d"))), "\"A\" <a@b, c@d>"}, {of(loose("", box("a", "b"), box("c", "d"))), "a@b, c@d"}, {of(loose("", some(3)...), loose("A", some(3)...)), "a@b, a@b, a@b, \"A\" <a@b, a@b, a@b>"},
		{of(group("")), "\"\":;"}, {of(group("", some(2)...)), "\"\":a@b, a@b;"}, {of(loose("", box("", ""))), "\"\"@"}, {of(one("\xff\x00\"", "\xff", "\x00")), "\"\xff\x00\\\"\" <\xff@\x00>"}, {of(group("\r\n", box("a", "b c"))), "\"\r\n\":a@b c;"},
		{of(group(a(3000), some(200)...)), "\"" + a(3000) + "\":" + strings.Repeat("a@b, ", 199) + "a@b;"},
	} {
		wantPrint(t, c.l, c.want)
	}
}

// P15.3: the mailboxes of each kind of entry, right and not, in order.
func TestBoxes(t *testing.T) {
	m, n, o := box("a", "b"), box("C", "\u00c4"), box("", "\xff")
	for _, c := range []struct {
		l    []api.Address
		want []api.Mailbox
	}{
		{nil, nil}, {[]api.Address{}, nil}, {of(api.Address{}), nil}, {of(group("g"), loose("A"), group("")), nil},
		{of(loose("", m)), []api.Mailbox{m}}, {of(loose("A", n)), []api.Mailbox{n}}, {of(group("g", m, n)), []api.Mailbox{m, n}}, {of(group("", o)), []api.Mailbox{o}},
		{of(loose("", m, n, o)), []api.Mailbox{m, n, o}}, {of(loose("A", o, o)), []api.Mailbox{o, o}},
		{of(loose("", m), group("g", n, o, n), group("h"), loose("B", o), api.Address{}, loose("", m)), []api.Mailbox{m, n, o, n, o, m}},
		{of(group("g", some(300)...), loose("", o)), append(some(300), o)},
	} {
		wantBoxes(t, c.l, c.want...)
	}
}

// P15.1, P15.2: beside an error nothing is told.
func TestNothingBesideErrors(t *testing.T) {
	for _, s := range []string{"", "a@b,", "a@b,\xff", "a@b,c@-d", times(101, "a@b"), "g:a@b;,h:;," + deep(33)} {
		if l, e := Parse(table, s); l != nil || e == api.OK {
			t.Errorf("Parse of %.99q: got %.99v, %d", s, l, e)
		}
	}
}

// lent is a string that is made of the bytes themselves, so that it shows when they change.
func lent(b []byte) string { return unsafe.String(unsafe.SliceData(b), len(b)) }

// lentList is l with strings that are lent, and with room behind each list; and the bytes that they are made of.
func lentList(l []api.Address) ([]api.Address, [][]byte) {
	var texts [][]byte
	lend := func(s string) string {
		texts = append(texts, []byte(s))
		return lent(texts[len(texts)-1])
	}
	m := make([]api.Address, 0, len(l)+2)
	for _, a := range l {
		boxes := make([]api.Mailbox, 0, len(a.Boxes)+2)
		for _, b := range a.Boxes {
			boxes = append(boxes, box(lend(b.Local), lend(b.Domain)))
		}
		m = append(m, api.Address{Name: lend(a.Name), Group: a.Group, Boxes: boxes})
	}
	return m, texts
}

// spoil overwrites texts.
func spoil(texts ...[]byte) {
	for _, text := range texts {
		for at := range text {
			text[at] = 'X'
		}
	}
}

// P15.4: nothing that is answered shares memory with what was handed in, nor is that changed, nor the room behind it.
func TestAnswersAreNew(t *testing.T) {
	for _, l := range [][]api.Address{
		of(one("", "a", "b")), of(one("A", "a", "b")), of(one("A B", "a b", "[c]")), of(group("g")), of(group("g", box("a", "b"))), of(one("\u00c4", "\u00e4", "b\u00fccher"), group("g h", some(5)...), one("", "k", "l")), of(api.Address{}), of(loose("", some(2)...)), of(loose("A")),
	} {
		want, wantAll, wantRight := Print(l), slices.Clone(slowBoxes(l)), slowRight(table, l)
		handed, texts := lentList(l)
		s, all, e := Print(handed), Boxes(handed), Right(table, handed)
		if !same(handed, l) || slices.ContainsFunc(handed[:cap(handed)][len(l):], func(a api.Address) bool { return a.Name != "" || a.Group || a.Boxes != nil }) {
			t.Errorf("%#v: changed", l)
		}
		for at, a := range handed {
			if room := a.Boxes[:cap(a.Boxes)][len(a.Boxes):]; !slices.Equal(a.Boxes, l[at].Boxes) || room[0] != (api.Mailbox{}) || room[1] != (api.Mailbox{}) {
				t.Errorf("%#v: changed", l)
			}
		}
		spoil(texts...)
		if s != want || !slices.Equal(all, wantAll) || e != wantRight {
			t.Errorf("%#v: what was handed in is kept: %q, %q, %d", l, s, all, e)
		}
		text := []byte(want)
		parsed, e := Parse(table, lent(text))
		if string(text) != want {
			t.Errorf("%q: changed", want)
		}
		spoil(text)
		if wantRight == api.OK && (e != api.OK || !same(parsed, l)) {
			t.Errorf("Parse of %q: what was handed in is kept: %.300v", want, parsed)
		}
	}
}

// P15.4: no two lists of an answer, nor of two answers, share any memory, nor the room behind them.
func TestListsOfAnswersAreApart(t *testing.T) {
	const s = "a@b,A<a@b>,g:;,g:a@b;,g:a@b,a@b;,g:a@b,Q<a@b>,a@b;,h:a@b,a@b,a@b,a@b,a@b;,a@b,h:a@b;"
	first, e := Parse(table, s)
	second, _ := Parse(table, s)
	if e != api.OK || len(first) != 9 {
		t.Fatal(first, e)
	}
	want, _ := slowParse(table, s)
	for at := range first {
		boxes := first[at].Boxes[:cap(first[at].Boxes)]
		for k := range boxes {
			boxes[k] = box("X", "X")
		}
		first[at].Name = "X"
		if !same(first[at+1:], want[at+1:]) {
			t.Fatalf("%d: lists of one answer share memory: %.300v", at, first)
		}
		for k := range boxes {
			boxes[k] = box(strconv.Itoa(at), "")
		}
	}
	for at := range first {
		if boxes := first[at].Boxes; slices.ContainsFunc(boxes[:cap(boxes)], func(m api.Mailbox) bool { return m.Local != strconv.Itoa(at) }) {
			t.Fatalf("%d: lists of one answer share memory: %.300v", at, first)
		}
	}
	clear(first[:cap(first)])
	third, _ := Parse(table, s)
	if !same(second, want) || !same(third, want) {
		t.Errorf("answers share memory: %.300v, %.300v", second, third)
	}
	told := Boxes(second)
	again := Boxes(second)
	clear(told[:cap(told)])
	if !same(second, want) || !slices.Equal(again, slowBoxes(want)) {
		t.Errorf("Boxes shares memory: %.300v, %.300v", second, again)
	}
}

// P15.2, P15.3, P15.5: many lists printed and parsed.
func TestFollows(t *testing.T) {
	var entries []api.Address
	for _, m := range boxes {
		entries = append(entries, loose("", m), loose("A", m), group("g", m), group("g h", m, boxes[0], m))
		for _, name := range names {
			checkList(t, of(loose(name, m)))
			checkList(t, of(group(name, m), loose(name, m), group(name)))
		}
	}
	for _, c := range wrongBoxes {
		entries = append(entries, loose("", c.m), group("g", c.m, boxes[1]))
	}
	for _, c := range wrongNames {
		entries = append(entries, loose(c.s, boxes[0]), group(c.s))
	}
	entries = append(entries, api.Address{}, loose("A"), loose("", some(2)...), group(""), group("g"), group("g", some(99)...), group("g", some(100)...), group("g", some(101)...))
	for _, a := range entries {
		for _, b := range entries {
			checkList(t, of(a, b))
		}
	}
}

// P15.5: lists of up to four entries of all kinds.
func TestFollowsOfLong(t *testing.T) {
	kinds := []api.Address{one("", "a", "b"), one("A \"B\\", "a b", "[c]"), group("g"), group(" ", box("c", "d"), box("\u00e4", "b\u00fccher"))}
	rows.Texts([]string{"0", "1", "2", "3"}, 6, func(s string) {
		var l []api.Address
		for _, kind := range []byte(s) {
			l = append(l, kinds[kind-'0'])
		}
		checkList(t, l)
	})
}

// P15.5: what is printed in 2000 bytes is parsed as it was; with one more it is too long.
func TestFollowsOfLimit(t *testing.T) {
	for _, l := range [][]api.Address{
		of(one(a(1992), "a", "b")), of(group(a(1996))), of(group(a(1993), box("a", "b"))), of(one("", "a", "["+a(1996)+"]")), of(one(strings.Repeat("\"", 996), "a", "b")), of(one("", "a", "b"), one(strings.Repeat("\\", 993)+"a", "a", "b")),
	} {
		s := Print(l)
		if len(s) != 2000 {
			t.Fatalf("%.99v: %d", l, len(s))
		}
		checkList(t, l)
		wantParse(t, s, l...)
		wantNone(t, s+" ", api.ErrLong)
		longer := append(l, one("", "a", "b"))
		wantRight(t, longer, api.OK)
		wantNone(t, Print(longer), api.ErrLong)
	}
}

// P15.1, P15.5: all short texts of what a list is written with.
func TestShortTexts(t *testing.T) {
	for _, c := range []struct {
		parts []string
		n     int
	}{
		{[]string{"a@b", "A", "<", ">", ":", ";", ",", " ", "\"\"", "(n)"}, 5},
		{[]string{"a@b", "g", "<", ">", ":", ";", ","}, 6},
		{[]string{"A<a@b>", "g:", ";", ",", "\"q\""}, 7},
		{[]string{"a", "@", ".", "<", ">", "[l]", ",", "-"}, 5},
	} {
		rows.Texts(c.parts, c.n, func(s string) { checkText(t, s) })
	}
}

// P15.3: what is printed of a mailbox is what package mailbox prints.
func TestPrintOfBoxes(t *testing.T) {
	for _, m := range boxes {
		s := mailbox.Print(m)
		wantPrint(t, of(loose("", m)), s)
		wantPrint(t, of(loose("A", m), group("g", m, m)), "\"A\" <"+s+">, \"g\":"+s+", "+s+";")
	}
}
