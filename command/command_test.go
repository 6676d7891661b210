package command

import (
	"slices"
	"strconv"
	"strings"
	"testing"
	"unsafe"

	"pillarbox/api"
	"pillarbox/path"
	"pillarbox/rows"
	"pillarbox/ucd"
)

// table is the one that all tests ask.
var table = ucd.New()

// nowhere is the Null path.
var nowhere = api.Path{Null: true}

// The numbers that are no verbs, some of them.
var noVerbs = []int{-1, 8, 9, -2, 100, 256, 1 << 32, 1<<32 + 2, api.MaxInt, api.MinInt}

// at is the path of a mailbox.
func at(local, domain string) api.Path {
	return api.Path{Box: api.Mailbox{Local: local, Domain: domain}}
}

// a tells n letters.
func a(n int) string { return strings.Repeat("a", n) }

// said is a command of a verb without parameters.
func said(verb int) api.Command { return api.Command{Verb: verb, Size: -1} }

// hello is an EHLO, or a HELO.
func hello(verb int, name string) api.Command {
	return api.Command{Verb: verb, Name: name, Size: -1}
}

// mail is a MAIL with a size, -1 for none, and the words 8 and u for what else it asks.
func mail(p api.Path, size int, asks string) api.Command {
	return api.Command{Verb: api.VerbMail, Path: p, Size: size, Eight: strings.Contains(asks, "8"), Utf8: strings.Contains(asks, "u")}
}

// rcpt is a RCPT.
func rcpt(p api.Path) api.Command { return api.Command{Verb: api.VerbRcpt, Path: p, Size: -1} }

// rightPaths are right, the Null one too; wide ones have bytes of 80 or more; wrongPaths are not right.
var (
	rightPaths = []api.Path{
		nowhere, at("postmaster", ""), at("PostMaster", ""), at("POSTMASTER", ""), at("a", "b"), at("Ann.B", "C.d"), at("a b", "c"), at("a\tb", "c"), at(">", "b"), at("<a@b>", "c"), at("a\"\\>", "b"), at("\\", "b"), at("\"", "b"), at("[", "b"), at("]>[", "b"),
		at("a", "[>]"), at("a", "[\"]"), at("a", "[\">\"]"), at("a b>", "[\"<>]"), at("a", "[]"), at("a", "[1.2.3.4]"), at("a", "xn--4ca"), at(a(64), a(63)+"."+a(63)+"."+a(63)+"."+a(61)), at(" SIZE=1", "b"), at("a", "[SMTPUTF8]"),
	}
	widePaths  = []api.Path{at("\u00e4", "b"), at("a", "B\u00fccher"), at("a", "b\u3002c"), at("a", "[\u00e4]"), at("\u00e4 >", "\u00e4"), at("\U0010ffff", "b"), at("a", "\uff21"), at("\u00e4\"", "[\u00e4>]")}
	wrongPaths = []api.Path{
		{}, at("a", ""), at("", "b"), at("postmasters", ""), at("a", "-b"), at("a", "b..c"), at("a", "["), at("a", "[b]c"), at("a", "b c"), at("a", ">"), at(a(65), "b"), at("a\xff", "b"), at("a", "\xff"), at("a\r\n", "b"), at("a", a(64)), at("\x7f", "b"), at("postmaster", "-"),
		{Null: true, Box: api.Mailbox{Local: "a", Domain: "b"}}, {Null: true, Box: api.Mailbox{Local: "postmaster"}}, {Null: true, Box: api.Mailbox{Domain: "b"}}, {Null: true, Box: api.Mailbox{Local: "a"}},
	}
)

// rightNames are names of EHLO and HELO, wrongNames are none; the last of these is the one of other verbs.
var (
	rightNames = []string{"x", "mail.b", "!", "~", "[1.2.3.4]", "a-b_c", "\"", "<>", "FROM:<a@b>", "EHLO", a(254), a(255), strings.Repeat("~", 255)}
	wrongNames = []string{" ", " x", "x ", "a b", "x\t", "\tx", "\x7f", "x\x00", "\x00", "\x1f", "x\r\n", "\u00e4", "x\u00e4", "\x80", "x\xff", "\ufffd", a(256), a(1 << 16), a(255) + " ", ""}
)

func wantRight(t *testing.T, c api.Command, want bool) {
	t.Helper()
	if Right(table, c) != want {
		t.Errorf("Right of %#v: want %v", c, want)
	}
}

func wantParse(t *testing.T, s string, want api.Command) {
	t.Helper()
	c, code := Parse(table, s)
	if c != want || code != 0 {
		t.Errorf("Parse of %.99q: got %#v, %d, want %#v", s, c, code, want)
	}
	wantRight(t, c, true)
}

// wantCode asks for nothing but the code, and a Size of -1.
func wantCode(t *testing.T, s string, want int) {
	t.Helper()
	if c, code := Parse(table, s); c != (api.Command{Verb: 0, Size: -1}) || code != want {
		t.Errorf("Parse of %.99q: got %#v, %d, want %d", s, c, code, want)
	}
}

func wantPrint(t *testing.T, c api.Command, want string) {
	t.Helper()
	if s := Print(c); s != want {
		t.Errorf("Print of %#v: got %.99q, want %.99q", c, s, want)
	}
}

// checkText holds what is told of s against the chapter's words.
func checkText(t *testing.T, s string) {
	t.Helper()
	c, code := slowParse(table, s)
	if code != 0 {
		wantCode(t, s, code)
		return
	}
	wantParse(t, s, c)
	checkCommand(t, c)
}

// checkCommand holds what is told of c against the chapter's words, and what follows from them.
func checkCommand(t *testing.T, c api.Command) {
	t.Helper()
	is := slowRight(table, c)
	wantRight(t, c, is)
	s := slowPrint(c)
	wantPrint(t, c, s)
	if !is {
		return
	}
	wide := c.Path != nowhere && slowEight.MatchString(c.Path.Box.Local+c.Path.Box.Domain)
	switch {
	case len(s) > 510:
		wantCode(t, s, 500)
	case c.Verb == api.VerbMail && wide && !c.Utf8:
		wantCode(t, s, 553)
	default:
		wantParse(t, s, c)
	}
}

// spelt hands over s with its letters of ASCII small, great, and by turns.
func spelt(s string, take func(string)) {
	for _, great := range []func(int) bool{
		func(int) bool { return false },
		func(int) bool { return true },
		func(place int) bool { return place%2 == 0 },
		func(place int) bool { return place%2 == 1 },
	} {
		b := []byte(s)
		for place := range b {
			switch letter := b[place] | 0x20; {
			case letter < 'a' || 'z' < letter:
			case great(place):
				b[place] = letter &^ 0x20
			default:
				b[place] = letter
			}
		}
		take(string(b))
	}
}

// P17.1: each verb has its word, other numbers have none.
func TestWord(t *testing.T) {
	for verb, want := range map[int]string{api.VerbEhlo: "EHLO", api.VerbHelo: "HELO", api.VerbMail: "MAIL", api.VerbRcpt: "RCPT", api.VerbData: "DATA", api.VerbRset: "RSET", api.VerbNoop: "NOOP", api.VerbQuit: "QUIT"} {
		if s := Word(verb); s != want {
			t.Errorf("Word of %d: got %q, want %q", verb, s, want)
		}
	}
	for _, verb := range noVerbs {
		if s := Word(verb); s != "" {
			t.Errorf("Word of %d: got %q", verb, s)
		}
	}
}

// P17.1: no number that is no verb makes a command, whatever else it has.
func TestRightVerb(t *testing.T) {
	for verb := range 8 {
		switch verb {
		case api.VerbEhlo, api.VerbHelo:
			wantRight(t, hello(verb, "x"), true)
		case api.VerbMail:
			wantRight(t, mail(nowhere, -1, ""), true)
		case api.VerbRcpt:
			wantRight(t, rcpt(at("a", "b")), true)
		default:
			wantRight(t, said(verb), true)
		}
	}
	for _, verb := range noVerbs {
		wantRight(t, said(verb), false)
		wantRight(t, hello(verb, "x"), false)
		wantRight(t, api.Command{Verb: verb, Path: at("a", "b"), Size: -1}, false)
		wantRight(t, api.Command{Verb: verb}, false)
	}
}

// P17.1: names, of verbs that have one and that have none.
func TestRightName(t *testing.T) {
	for _, verb := range []int{api.VerbEhlo, api.VerbHelo} {
		for _, name := range rightNames {
			wantRight(t, hello(verb, name), true)
		}
		for _, name := range wrongNames {
			wantRight(t, hello(verb, name), false)
		}
		for b := range 256 {
			printed := 0x21 <= b && b <= 0x7e
			one := string([]byte{byte(b)})
			for _, name := range []string{one, "x" + one, one + "x", a(254) + one} {
				wantRight(t, hello(verb, name), printed)
			}
		}
		for n := range 300 {
			wantRight(t, hello(verb, a(n)), 1 <= n && n <= 255)
		}
	}
	for _, name := range append(rightNames, wrongNames[:len(wrongNames)-1]...) {
		for _, c := range []api.Command{mail(nowhere, -1, ""), mail(at("a", "b"), 1, "8u"), rcpt(at("a", "b")), said(api.VerbData), said(api.VerbRset), said(api.VerbNoop), said(api.VerbQuit)} {
			c.Name = name
			wantRight(t, c, false)
		}
	}
}

// P17.1: paths, of MAIL, of RCPT, and of verbs that have none.
func TestRightPath(t *testing.T) {
	for _, p := range slices.Concat(rightPaths, widePaths) {
		for _, asks := range []string{"", "8", "u", "8u"} {
			wantRight(t, mail(p, -1, asks), true)
		}
		wantRight(t, rcpt(p), !p.Null)
	}
	for _, p := range wrongPaths {
		wantRight(t, mail(p, -1, ""), false)
		wantRight(t, mail(p, 1, "8u"), false)
		wantRight(t, rcpt(p), false)
	}
	for _, p := range slices.Concat(rightPaths, widePaths, wrongPaths[1:]) {
		for _, c := range []api.Command{hello(api.VerbEhlo, "x"), hello(api.VerbHelo, "x"), said(api.VerbData), said(api.VerbRset), said(api.VerbNoop), said(api.VerbQuit)} {
			c.Path = p
			wantRight(t, c, false)
		}
	}
}

// P17.1: sizes, and what else MAIL asks, of MAIL and of others.
func TestRightParams(t *testing.T) {
	others := []api.Command{hello(api.VerbEhlo, "x"), hello(api.VerbHelo, "x"), rcpt(at("a", "b")), said(api.VerbData), said(api.VerbRset), said(api.VerbNoop), said(api.VerbQuit)}
	for size, want := range map[int]bool{-1: true, 0: true, 1: true, 1000: true, 1<<24 - 1: true, 1 << 24: true, 1<<24 + 1: false, -2: false, 1 << 32: false, 1<<32 - 1: false, api.MaxInt: false, api.MinInt: false} {
		for _, asks := range []string{"", "8", "u", "8u"} {
			wantRight(t, mail(nowhere, size, asks), want)
			wantRight(t, mail(at("a", "b"), size, asks), want)
		}
		for _, c := range others {
			c.Size = size
			wantRight(t, c, size == -1)
		}
	}
	for _, c := range others {
		c.Eight = true
		wantRight(t, c, false)
		c.Utf8 = true
		wantRight(t, c, false)
		c.Eight = false
		wantRight(t, c, false)
	}
}

// P17.2: the chapter's examples, and each verb, its letters great, small and mixed.
func TestParse(t *testing.T) {
	wantParse(t, "mail from:<> size=9", mail(nowhere, 9, ""))
	wantCode(t, "RCPT TO:<>", 553)
	for _, c := range []struct {
		words, rest string
		want        api.Command
	}{
		{"EHLO", " X.y", hello(api.VerbEhlo, "X.y")},
		{"HELO", " X.y", hello(api.VerbHelo, "X.y")},
		{"MAIL FROM:", "<A@B>", mail(at("A", "B"), -1, "")},
		{"MAIL FROM:", "<>", mail(nowhere, -1, "")},
		{"MAIL FROM:<> SIZE=7 BODY=8BITMIME SMTPUTF8", "", mail(nowhere, 7, "8u")},
		{"MAIL FROM:<> BODY=7BIT", "", mail(nowhere, -1, "")},
		{"RCPT TO:", "<A@B>", rcpt(at("A", "B"))},
		{"RCPT TO:", "<PostMaster>", rcpt(at("PostMaster", ""))},
		{"DATA", "", said(api.VerbData)},
		{"RSET", "", said(api.VerbRset)},
		{"NOOP", "", said(api.VerbNoop)},
		{"NOOP", " X", said(api.VerbNoop)},
		{"QUIT", "", said(api.VerbQuit)},
	} {
		spelt(c.words, func(s string) { wantParse(t, s+c.rest, c.want) })
	}
}

// P17.2: what is no word, and what stands behind one.
func TestParseWords(t *testing.T) {
	for _, s := range []string{
		"", " ", "E", "EH", "EHL", "DAT", "QUI", "MAI", "    ", "VRFY", "VRFY a", "EXPN", "HELP", "EHLP x", "XDATA", " DATA", "\tQUIT", " EHLO x", "STARTTLS", "TURN",
		"EHLOx", "EHLO\tx", "EHLO\x00", "EHLO\r\n", "EHLO=x", "HELO-x", "MAILFROM:<>", "MAIL:<>", "MAIL\tFROM:<>", "RCPTTO:<a@b>", "RCPT:", "DATAx", "DATA\r", "DATA\n", "DATA\r\n", "DATA.", "RSETx", "RSET\t", "NOOPx", "NOOP\t", "NOOP\x00", "NOOP\u00a0", "NOOP\x80", "NOOP_", "QUITx", "QUIT\r\n", "QUIT\xff", "QUITQUIT",
		// Letters of ASCII alone are folded: a long s, a dotless i, a Kelvin sign and wide letters are others.
		"R\u017fET", "QU\u0131T", "\uff25\uff28\uff2c\uff2f x", "EHL\u00d6", "\uff24ATA", "\u0000DATA", "D\x00TA", "NO\xcfOP",
		// These differ from letters by the bit that great letters do from small ones.
		"N/OP", "NO/P", "EHL/", "\x05HLO x",
	} {
		wantCode(t, s, 500)
	}
	for _, word := range []string{"EHLO", "HELO", "MAIL", "RCPT", "DATA", "RSET", "NOOP", "QUIT"} {
		for n := range 4 {
			wantCode(t, word[:n], 500)
			wantCode(t, word[:n]+" ", 500)
			wantCode(t, word[:n]+" x", 500)
			for b := range 256 {
				checkText(t, word[:n]+string([]byte{byte(b)})+word[n+1:])
			}
		}
		for b := range 256 {
			if b == ' ' {
				continue
			}
			wantCode(t, word+string([]byte{byte(b)}), 500)
			wantCode(t, word+string([]byte{byte(b)})+" x", 500)
			wantCode(t, string([]byte{byte(b)})+word, 500)
		}
	}
}

// P17.2: lines of just as many bytes as may be, and of one more, of each kind.
func TestParseLong(t *testing.T) {
	fill := func(ahead, behind string, n int) string { return ahead + a(n-len(ahead)-len(behind)) + behind }
	for _, c := range []struct {
		ahead, behind string
		code          int
	}{
		{"EHLO ", "", 501}, {"HELO ", "", 501}, {"MAIL FROM:<a@[", "]>", 0}, {"MAIL FROM:<a@[", "]> SIZE=1 BODY=8BITMIME SMTPUTF8", 0}, {"MAIL FROM:<", ">", 553}, {"MAIL FROM:<", "", 501}, {"MAIL ", "", 501}, {"MAIL FROM:<> ", "", 555},
		{"MAIL FROM:<\u00e4@[", "]> SMTPUTF8", 0}, {"MAIL FROM:<\u00e4@[", "]>", 553}, {"RCPT TO:<a@[", "]>", 0}, {"RCPT TO:<\u00e4@[", "\u00e4]>", 0}, {"RCPT TO:<a@b>", "", 555}, {"RCPT TO:<", ">", 553}, {"RCPT ", "", 501}, {"DATA ", "", 501}, {"RSET ", "", 501}, {"NOOP ", "", 0}, {"NOOP \u00e4\xff", "\xff", 0}, {"QUIT ", "", 501}, {"VRFY ", "", 500}, {"", "", 500}, {"NOOP", "", 500},
	} {
		for _, n := range []int{509, 510} {
			s := fill(c.ahead, c.behind, n)
			if _, code := Parse(table, s); code != c.code {
				t.Errorf("%d bytes, %.20q: got %d, want %d", n, s, code, c.code)
			}
			checkText(t, s)
		}
		for _, n := range []int{511, 512, 1 << 16} {
			wantCode(t, fill(c.ahead, c.behind, n), 500)
		}
	}
	wantParse(t, fill("MAIL FROM:<a@[", "]>", 510), mail(at("a", "["+a(494)+"]"), -1, ""))
	wantParse(t, fill("RCPT TO:<a@[", "]>", 510), rcpt(at("a", "["+a(496)+"]")))
	wantParse(t, fill("NOOP ", "", 510), said(api.VerbNoop))
}

// P17.2: EHLO and HELO, with a Name that is right and that is not.
func TestParseHello(t *testing.T) {
	for verb, word := range map[int]string{api.VerbEhlo: "EHLO", api.VerbHelo: "HELO"} {
		for _, name := range rightNames {
			wantParse(t, word+" "+name, hello(verb, name))
		}
		for _, name := range wrongNames {
			code := 501
			if len(name) > 505 {
				code = 500
			}
			wantCode(t, word+" "+name, code)
		}
		wantCode(t, word, 501)
		wantCode(t, word+"  ", 501)
		wantCode(t, word+"  x", 501)
		wantCode(t, word+" x y", 501)
		wantCode(t, word+" x ", 501)
	}
}

// P17.2: what stands ahead of a path, and where it ends.
func TestParseForm(t *testing.T) {
	for word, key := range map[string]string{"MAIL ": "FROM:", "RCPT ": "TO:"} {
		ahead := word + key
		for _, s := range []string{
			strings.TrimSpace(word), word, word + " ", word + "<a@b>", word + " " + key + "<a@b>", word + "x" + key + "<a@b>", word + key[:len(key)-1] + "<a@b>", word + key[:len(key)-1] + " :<a@b>", word + key[:len(key)-1] + ";<a@b>", word + key[1:] + "<a@b>", word + "\t" + key + "<a@b>", word + ":<a@b>", word + "X:<a@b>",
			// No path behind it.
			word + key[:1], word + key[:len(key)-1], ahead, ahead + " ", ahead + "<", ahead + "a@b", ahead + "<a@b", ahead + "<a@b SIZE=1", ahead + "\xff",
			// The > is in a quote, or in brackets, or these have no end.
			ahead + "<\">\"", ahead + "<\"a>\"@b", ahead + "<a@[>]", ahead + "<\"a@b>", ahead + "<a\"@b>", ahead + "<\"a\\\"@b>", ahead + "<\"\\\">\"@b", ahead + "<\"\\\\\\\">\"@b", ahead + "<\"a\\", ahead + "<\"a>\\", ahead + "<a@[b>", ahead + "<a@[b>\"", ahead + "<[@b>", ahead + "<\"[>]\"", ahead + "<[\">\"]", ahead + "<\"]\"[>", ahead + "<[]\">", ahead + "<a@[\\]\">]",
		} {
			wantCode(t, s, 501)
		}
	}
	for _, s := range []string{"MAIL TO:<a@b>", "RCPT FROM:<a@b>", "MAIL TO:<>", "RCPT FROM:<>", "MAIL <>", "RCPT <a@b>", "MAIL \uff26ROM:<>", "RCPT \uff34O:<a@b>", "MAIL FROM<a@b>:>", "MAIL FROM :<a@b>"} {
		wantCode(t, s, 501)
	}
	for text, p := range map[string]api.Path{
		"<a@b>":                      at("a", "b"),
		"<\">\"@b>":                  at(">", "b"),
		"<\"a>\"@[x>y]>":             at("a>", "[x>y]"),
		"<\"\\>\"@b>":                at(">", "b"),
		"<\"\\\">\"@b>":              at("\">", "b"),
		"<\"\\\\\"@b>":               at("\\", "b"),
		"<\"\\\\\\\">\"@b>":          at("\\\">", "b"),
		"<\"a\\\\\"@[\">]>":          at("a\\", "[\">]"),
		"<\"a\\\\\\>\"@b>":           at("a\\>", "b"),
		"<a@[>]>":                    at("a", "[>]"),
		"<a@[\">]>":                  at("a", "[\">]"),
		"<a@[\">\"]>":                at("a", "[\">\"]"),
		"<\"[\"@b>":                  at("[", "b"),
		"<\"[>\"@b>":                 at("[>", "b"),
		"<\"]>[\"@[\">\"]>":          at("]>[", "[\">\"]"),
		"<\"<a@b>\"@[<a@b>]>":        at("<a@b>", "[<a@b>]"),
		"<\" SIZE=1\"@b>":            at(" SIZE=1", "b"),
		"<\"a> SIZE=1\"@[SMTPUTF8]>": at("a> SIZE=1", "[SMTPUTF8]"),
	} {
		wantParse(t, "MAIL FROM:"+text, mail(p, -1, ""))
		wantParse(t, "MAIL FROM:"+text+" SIZE=0", mail(p, 0, ""))
		wantParse(t, "RCPT TO:"+text, rcpt(p))
		wantCode(t, "RCPT TO:"+text+" ", 555)
		wantCode(t, "RCPT TO:"+text+">", 555)
		wantCode(t, "MAIL FROM:"+text+">", 501)
	}
}

// P17.2: paths that are wrong, whatever stands behind them; of RCPT the Null one is, and the postmaster's is not.
func TestParsePath(t *testing.T) {
	for _, text := range []string{
		" <a@b>", "\t<a@b>", ">", " >", "a@b>", "<<>", "<<a@b>", "<a>", "<@>", "<a@>", "<@b>", "< >", "<a@b >", "< a@b>", "<a @b>", "<a@(n)b>", "<(>", "<a@b(>)>", "<a..b@c>", "<a@-b>", "<a@b.>", "<\"\"@b>", "<a@[b]c>", "<\"a\"b@c>", "<a\">\"@b>", "<a@b,c@d>", "<@x:a@b>", "<a@b_>", "<\xff@b>", "<a@b\x80>", "<\x00@b>", "<a\x7f@b>", "<" + a(65) + "@b>", "<a@" + a(64) + ">", "<\"postmaster\">", "<postmasters>", "<postmaster@>", "<\u00e4>", "\u3008a@b>", "\"\"<a@b>", "[]<a@b>", "<a@[\\]>", "<a@[[]>", "<\"\x00\"@b>", "\"<a@b>\"<>", "\\<a@b>", "<\\>@b>", "<\\\">\"@b>",
	} {
		for _, behind := range []string{"", " ", "x", " x", " SIZE=1", " SIZE=1 SIZE=1", " SIZE=99999999", " SMTPUTF8", ">"} {
			wantCode(t, "MAIL FROM:"+text+behind, 553)
			wantCode(t, "RCPT TO:"+text+behind, 553)
		}
	}
	for _, behind := range []string{"", " ", "x", " x", ">"} {
		wantCode(t, "RCPT TO:<>"+behind, 553)
	}
	wantParse(t, "MAIL FROM:<>", mail(nowhere, -1, ""))
	for _, name := range []string{"postmaster", "PostMaster", "POSTMASTER"} {
		wantParse(t, "RCPT TO:<"+name+">", rcpt(at(name, "")))
		wantParse(t, "MAIL FROM:<"+name+">", mail(at(name, ""), -1, ""))
	}
	for _, p := range wrongPaths {
		checkText(t, "MAIL FROM:"+path.Print(p))
		checkText(t, "RCPT TO:"+path.Print(p))
	}
}

// P17.2: something behind the path: of RCPT anything, of MAIL what begins with no blank.
func TestParseBehind(t *testing.T) {
	for _, p := range slices.Concat(rightPaths, widePaths) {
		for b := range 256 {
			one := string([]byte{byte(b)})
			code := 501
			if one == " " {
				code = 555
			}
			for _, behind := range []string{one, one + "x", one + " SIZE=1", one + one} {
				wantCode(t, "MAIL FROM:"+path.Print(p)+behind, code)
				if !p.Null {
					wantCode(t, "RCPT TO:"+path.Print(p)+behind, 555)
				}
			}
		}
		if !p.Null {
			for _, behind := range []string{" SIZE=1", " SMTPUTF8", " BODY=7BIT", " BODY=8BITMIME"} {
				wantCode(t, "RCPT TO:"+path.Print(p)+behind, 555)
			}
		}
	}
}

// P17.2: each parameter as it may be.
func TestParseParams(t *testing.T) {
	for text, want := range map[string]api.Command{
		"SIZE=0":                               mail(at("a", "b"), 0, ""),
		"SIZE=1":                               mail(at("a", "b"), 1, ""),
		"SIZE=007":                             mail(at("a", "b"), 7, ""),
		"SIZE=00000000":                        mail(at("a", "b"), 0, ""),
		"SIZE=00000009":                        mail(at("a", "b"), 9, ""),
		"SIZE=12345678":                        mail(at("a", "b"), 12345678, ""),
		"SIZE=16777215":                        mail(at("a", "b"), 1<<24-1, ""),
		"SIZE=16777216":                        mail(at("a", "b"), 1<<24, ""),
		"BODY=8BITMIME":                        mail(at("a", "b"), -1, "8"),
		"BODY=7BIT":                            mail(at("a", "b"), -1, ""),
		"SMTPUTF8":                             mail(at("a", "b"), -1, "u"),
		"SIZE=5 BODY=8BITMIME":                 mail(at("a", "b"), 5, "8"),
		"SIZE=5 BODY=7BIT":                     mail(at("a", "b"), 5, ""),
		"BODY=7BIT SIZE=5":                     mail(at("a", "b"), 5, ""),
		"SMTPUTF8 SIZE=5":                      mail(at("a", "b"), 5, "u"),
		"SMTPUTF8 BODY=8BITMIME":               mail(at("a", "b"), -1, "8u"),
		"BODY=7BIT SMTPUTF8":                   mail(at("a", "b"), -1, "u"),
		"SIZE=16777216 BODY=8BITMIME SMTPUTF8": mail(at("a", "b"), 1<<24, "8u"),
		"SMTPUTF8 BODY=8BITMIME SIZE=0":        mail(at("a", "b"), 0, "8u"),
		"BODY=8BITMIME SIZE=00000001 SMTPUTF8": mail(at("a", "b"), 1, "8u"),
	} {
		spelt(text, func(s string) { wantParse(t, "MAIL FROM:<a@b> "+s, want) })
	}
}

// wrongParams are parameters with one fault each, by their keys; of the key "" are those whose key is none.
var wrongParams = map[string]map[int][]string{
	"": {555: {
		"", "X", "X=1", "=", "=1", "=SIZE", "SIZES=1", "SIZ=1", "SIZE:1", "8BITMIME", "7BIT", "BODY8BITMIME", "BODYS", "SMTPUTF", "SMTPUTF88", "UTF8", "SMTPUTF8,", "AUTH=<>", "RET=FULL",
		"\u017fIZE=1", "S\u0130ZE=1", "\uff33IZE=1", "\tSIZE=1", "SIZE\t=1", "SIZE\x00=1", "BODY\t=7BIT", "\x00", "\xff", "SMTPUTF\uff18",
	}},
	"SIZE": {501: {
		"SIZE", "SIZE=", "SIZE==1", "SIZE=1=", "SIZE=x", "SIZE=1x", "SIZE=x1", "SIZE=+1", "SIZE=-1", "SIZE=-0", "SIZE=1.0", "SIZE=1_0", "SIZE=0x1", "SIZE=1e3", "SIZE=\t1", "SIZE=1\t", "SIZE=\u0661", "SIZE=\uff11", "SIZE=1\xff", "SIZE=/", "SIZE=:", "SIZE=1\x00", "SIZE=\"1\"",
		"SIZE=123456789", "SIZE=000000000", "SIZE=000000001", "SIZE=016777217", "SIZE=18446744073709551617", "SIZE=9223372036854775808", "SIZE=aaaaaaaaa", "SIZE=99999999x",
	}, 552: {"SIZE=16777217", "SIZE=16777218", "SIZE=20000000", "SIZE=99999999"}},
	"BODY": {501: {
		"BODY", "BODY=", "BODY=x", "BODY=8BIT", "BODY=8", "BODY=7", "BODY=7BITMIME", "BODY=BINARYMIME", "BODY=8BITMIMES", "BODY==7BIT", "BODY=7BIT=", "BODY=\t7BIT", "BODY=7BIT\t", "BODY=7B\u0131T", "BODY=7B\u0130T", "BODY=8B\u0130TMIME", "BODY=8BITMIME\x00", "BODY=\uff17BIT", "BODY=SMTPUTF8", "BODY=SIZE",
	}},
	"SMTPUTF8": {501: {"SMTPUTF8=", "SMTPUTF8=1", "SMTPUTF8=SMTPUTF8", "SMTPUTF8==", "SMTPUTF8=\xff", "SMTPUTF8=7BIT"}},
}

// P17.2: each fault of a parameter, alone, behind right ones, and ahead of others that are right and wrong.
func TestParseWrongParams(t *testing.T) {
	check := func(ahead, text string, code int) {
		for _, behind := range []string{"", " ", " X", " SIZE=1", " SIZE=", " SIZE=99999999", " BODY=x", " SMTPUTF8"} {
			wantCode(t, "MAIL FROM:<a@b> "+ahead+text+behind, code)
		}
	}
	for key, codes := range wrongParams {
		for code, texts := range codes {
			for _, text := range texts {
				spelt(text, func(s string) {
					check("", s, code)
					for other, right := range map[string]string{"SIZE": "SIZE=1 ", "BODY": "body=8bitmime ", "SMTPUTF8": "SMTPUTF8 "} {
						if key == other {
							// Its key stands twice then, whatever else is wrong with it.
							check(right, s, 501)
						} else {
							check(right, s, code)
						}
					}
				})
			}
		}
	}
}

// P17.2: what stands twice, the blanks between, and which of several faults is told.
func TestParseSeveralParams(t *testing.T) {
	for text, code := range map[string]int{
		// Twice, the same or not, right or not.
		"SIZE=1 SIZE=1": 501, "SIZE=1 SIZE=2": 501, "SIZE=1 size=1": 501, "SIZE=1 SIZE": 501, "SIZE=1 SIZE=99999999": 501, "SIZE=1 BODY=7BIT SIZE=1": 501, "SIZE=0 SIZE=0": 501, "SIZE=1 SIZE=x": 501,
		"BODY=7BIT BODY=7BIT": 501, "BODY=7BIT BODY=8BITMIME": 501, "BODY=8BITMIME body=8bitmime": 501, "BODY=7BIT BODY": 501, "SMTPUTF8 SMTPUTF8": 501, "SMTPUTF8 smtputf8": 501, "SMTPUTF8 SMTPUTF8=": 501, "SMTPUTF8 SIZE=1 SMTPUTF8": 501,
		// The first one that is wrong counts, however wrong others are.
		"X SIZE": 555, "SIZE X": 501, "SIZE=99999999 X": 552, "X SIZE=99999999": 555, "SIZE=99999999 SIZE=99999999": 552, "SIZE= SIZE=99999999": 501, "BODY=x SIZE=99999999": 501, "SIZE=99999999 BODY=x": 552, "SMTPUTF8= X": 501, "X SMTPUTF8=": 555, "BODY=x X": 501, "SIZE=1 SIZE=1 X": 501, "SIZE=1 X SIZE=1": 555, "X X": 555, "SIZE=1 SIZE=99999999 X": 501,
		// Blanks.
		"": 555, " ": 555, " SIZE=1": 555, "SIZE=1 ": 555, "SIZE=1  BODY=7BIT": 555, "SIZE=1 BODY=7BIT ": 555, "SIZE= 1": 501, "SIZE =1": 501, "BODY= 7BIT": 501, "SMTPUTF8 =": 555, "SIZE=1  SIZE=1": 555, "SIZE=x ": 501, "SIZE=99999999 ": 552, "  X": 555, "SIZE=1\tBODY=7BIT": 501, "SMTPUTF8\tSIZE=1": 555, "SMTPUTF8  ": 555,
	} {
		wantCode(t, "MAIL FROM:<a@b> "+text, code)
		wantCode(t, "MAIL FROM:<> "+text, code)
		// What is wrong with the parameters is told ahead of what the path needs.
		wantCode(t, "MAIL FROM:<\u00e4@b> "+text, code)
	}
}

// P17.2: what a path with bytes of 80 or more needs of MAIL, and does not of RCPT.
func TestParseWide(t *testing.T) {
	for _, p := range widePaths {
		text := path.Print(p)
		for _, with := range []string{"", " SIZE=1", " BODY=8BITMIME", " BODY=7BIT", " SIZE=1 BODY=8BITMIME"} {
			wantCode(t, "MAIL FROM:"+text+with, 553)
		}
		wantParse(t, "MAIL FROM:"+text+" SMTPUTF8", mail(p, -1, "u"))
		wantParse(t, "mail from:"+text+" smtputf8", mail(p, -1, "u"))
		wantParse(t, "MAIL FROM:"+text+" SIZE=1 SMTPUTF8", mail(p, 1, "u"))
		wantParse(t, "MAIL FROM:"+text+" SMTPUTF8 BODY=8BITMIME", mail(p, -1, "8u"))
		wantCode(t, "MAIL FROM:"+text+" SMTPUTF8=", 501)
		wantParse(t, "RCPT TO:"+text, rcpt(p))
		wantCode(t, "RCPT TO:"+text+" SMTPUTF8", 555)
	}
	wantParse(t, "MAIL FROM:<a@b> SMTPUTF8", mail(at("a", "b"), -1, "u"))
	wantParse(t, "MAIL FROM:<a@xn--4ca>", mail(at("a", "xn--4ca"), -1, ""))
	wantParse(t, "MAIL FROM:<\"a\\\u00e4\"@b> SMTPUTF8", mail(at("a\u00e4", "b"), -1, "u"))
}

// P17.2: DATA, RSET and QUIT stand alone, NOOP does not care.
func TestParseAlone(t *testing.T) {
	behind := []string{" ", "  ", " x", " DATA", " \x00", " \xff", " \u00e4", " \r\n", " FROM:<>", " SIZE=1"}
	for _, verb := range []int{api.VerbData, api.VerbRset, api.VerbQuit} {
		spelt(Word(verb), func(word string) {
			wantParse(t, word, said(verb))
			for _, s := range behind {
				wantCode(t, word+s, 501)
			}
		})
	}
	spelt("NOOP", func(word string) {
		wantParse(t, word, said(api.VerbNoop))
		for _, s := range behind {
			wantParse(t, word+s, said(api.VerbNoop))
		}
		for b := range 256 {
			wantParse(t, word+" "+string([]byte{byte(b)}), said(api.VerbNoop))
		}
	})
}

// P17.3: each verb, MAIL with and without each of its parameters.
func TestPrint(t *testing.T) {
	wantPrint(t, hello(api.VerbEhlo, "x.Y"), "EHLO x.Y")
	wantPrint(t, hello(api.VerbHelo, "x.Y"), "HELO x.Y")
	wantPrint(t, rcpt(at("Ann", "b")), "RCPT TO:<Ann@b>")
	wantPrint(t, rcpt(at("a b", "[>]")), "RCPT TO:<\"a b\"@[>]>")
	wantPrint(t, rcpt(at("PostMaster", "")), "RCPT TO:<PostMaster>")
	wantPrint(t, rcpt(at("\u00e4", "\u00c4")), "RCPT TO:<\u00e4@\u00c4>")
	wantPrint(t, said(api.VerbData), "DATA")
	wantPrint(t, said(api.VerbRset), "RSET")
	wantPrint(t, said(api.VerbNoop), "NOOP")
	wantPrint(t, said(api.VerbQuit), "QUIT")
	for _, p := range []api.Path{nowhere, at("a", "b"), at("\u00e4 >", "\u00e4"), at("postmaster", "")} {
		ahead := "MAIL FROM:" + path.Print(p)
		for size, with := range map[int]string{-1: "", 0: " SIZE=0", 7: " SIZE=7", 1 << 24: " SIZE=16777216"} {
			wantPrint(t, mail(p, size, ""), ahead+with)
			wantPrint(t, mail(p, size, "8"), ahead+with+" BODY=8BITMIME")
			wantPrint(t, mail(p, size, "u"), ahead+with+" SMTPUTF8")
			wantPrint(t, mail(p, size, "8u"), ahead+with+" BODY=8BITMIME SMTPUTF8")
		}
	}
	for _, verb := range noVerbs {
		wantPrint(t, said(verb), "")
		wantPrint(t, api.Command{Verb: verb, Name: "x", Path: at("a", "b"), Size: 1, Eight: true, Utf8: true}, "")
	}
}

// P17.3: what is not right is printed too, with nothing that its verb does not have.
func TestPrintWrong(t *testing.T) {
	all := api.Command{Name: "\u00e4 B", Path: at("a", "-"), Size: 1 << 24 * 10, Eight: true, Utf8: true}
	for verb, want := range map[int]string{
		api.VerbEhlo: "EHLO \u00e4 B", api.VerbHelo: "HELO \u00e4 B",
		api.VerbMail: "MAIL FROM:<a@-> SIZE=167772160 BODY=8BITMIME SMTPUTF8", api.VerbRcpt: "RCPT TO:<a@->",
		api.VerbData: "DATA", api.VerbRset: "RSET", api.VerbNoop: "NOOP", api.VerbQuit: "QUIT",
	} {
		all.Verb = verb
		wantPrint(t, all, want)
	}
	wantPrint(t, hello(api.VerbEhlo, ""), "EHLO ")
	wantPrint(t, hello(api.VerbHelo, ""), "HELO ")
	wantPrint(t, rcpt(nowhere), "RCPT TO:<>")
	wantPrint(t, mail(api.Path{}, -1, ""), "MAIL FROM:<\"\"@>")
	wantPrint(t, mail(nowhere, -2, ""), "MAIL FROM:<> SIZE=-2")
	wantPrint(t, mail(nowhere, api.MaxInt, ""), "MAIL FROM:<> SIZE=9223372036854775807")
	wantPrint(t, mail(nowhere, api.MinInt, ""), "MAIL FROM:<> SIZE=-9223372036854775808")
}

// P17.4: many commands, right and wrong, printed and parsed.
func TestFollows(t *testing.T) {
	sizes := []int{-2, -1, 0, 1, 9, 10, 12345678, 1<<24 - 1, 1 << 24, 1<<24 + 1}
	for verb := -1; verb <= 8; verb++ {
		for _, name := range slices.Concat(rightNames, wrongNames) {
			checkCommand(t, hello(verb, name))
		}
		for _, p := range slices.Concat(rightPaths, widePaths, wrongPaths) {
			for _, size := range sizes {
				for _, asks := range []string{"", "8", "u", "8u"} {
					c := mail(p, size, asks)
					c.Verb = verb
					checkCommand(t, c)
					c.Name = "x"
					checkCommand(t, c)
				}
			}
		}
		checkCommand(t, api.Command{Verb: verb})
	}
}

// P17.4: commands that are printed in about 510 bytes.
func TestFollowsLong(t *testing.T) {
	for n := 440; n < 520; n++ {
		for _, p := range []api.Path{at("a", "["+a(n)+"]"), at("a>", "["+a(n)+"]"), at("\u00e4", "["+a(n)+"]")} {
			checkCommand(t, rcpt(p))
			for _, size := range []int{-1, 0, 1 << 24} {
				for _, asks := range []string{"", "8", "u", "8u"} {
					checkCommand(t, mail(p, size, asks))
				}
			}
		}
	}
}

// P17.2: all short texts of what lines are made of.
func TestShortTexts(t *testing.T) {
	for _, c := range []struct {
		ahead []string
		parts []string
		n     int
	}{
		{[]string{""}, []string{"EHLO", "helo", "Mail", "rcpT", "data", "Rset", "noop", "qUIT", " ", "x", "\t", "from:", "TO:", "<a@b>"}, 4},
		{[]string{"", "DA", "quit", "NOOP"}, []string{"D", "a", "t", "A", " ", "\xff", "e"}, 4},
		{[]string{"EHLO", "HELO "}, []string{" ", "x", "\t", "~", "!", "\x7f", "\u00e4", "\xff", "\x00"}, 4},
		{[]string{"MAIL FROM:", "RCPT TO:", "MAIL FROM:<", "RCPT TO:<"}, []string{"<", ">", "a@b", "\"", "[", "]", "\\", " ", "@"}, 5},
		{[]string{"MAIL FROM:<a@", "RCPT TO:<\""}, []string{">", "\"", "[", "]", "\\", "@", "b", "\u00e4"}, 5},
		{[]string{"MAIL ", "RCPT "}, []string{"FROM", "to", ":", "<>", "<a@b>", " ", "<postmaster>", "size=1", "<\u00e4@b>"}, 4},
		{[]string{"MAIL FROM:<>", "MAIL FROM:<\u00e4@b>", "MAIL FROM:<a@b>"}, []string{" SIZE=", "16777216", "0", " Body=7bit", " BODY=8BITMIME", " smtputf8", " ", "=", "x"}, 4},
		{[]string{"MAIL FROM:<> ", "MAIL FROM:<a@b> SMTPUTF8 "}, []string{"size", "BODY", "SMTPUTF8", "=", "7BIT", "9", "+", " "}, 5},
	} {
		for _, ahead := range c.ahead {
			rows.Texts(c.parts, c.n, func(s string) { checkText(t, ahead+s) })
		}
	}
}

// P17.2: each byte put into right lines at each place, and in the place of each byte.
func TestEachByte(t *testing.T) {
	for _, line := range []string{"EHLO x.y", "mail from:<a@b> size=12 BODY=8bitmime smtputf8", "MAIL FROM:<\"a>\\\"\"@[b>]> BODY=7BIT", "RCPT TO:<\"a\\\\\"@[\"b]>", "RCPT TO:<\u00e4@\u00c4>", "MAIL FROM:<\u00e4@b> SMTPUTF8", "RCPT TO:<PostMaster>", "DATA", "NOOP x", "MAIL FROM:<>"} {
		for place := range len(line) + 1 {
			for b := range 256 {
				one := string([]byte{byte(b)})
				checkText(t, line[:place]+one+line[place:])
				if place < len(line) {
					checkText(t, line[:place]+one+line[place+1:])
				}
			}
			checkText(t, line[:place])
			checkText(t, line[place:])
			if place < len(line) {
				checkText(t, line[:place]+line[place+1:])
			}
		}
	}
}

// P17.2: all sizes about the limit and about each number of digits.
func TestSizes(t *testing.T) {
	for _, about := range []int{0, 10, 100, 1000, 99999, 1 << 24, 99999999, 1 << 31, 1 << 32, 1<<63 - 100} {
		for n := max(about-50, 0); n < about+50; n++ {
			checkText(t, "MAIL FROM:<> SIZE="+strconv.Itoa(n))
		}
	}
	for digits := range 30 {
		checkText(t, "MAIL FROM:<> SIZE="+strings.Repeat("0", digits))
		checkText(t, "MAIL FROM:<> SIZE="+strings.Repeat("1", digits))
		checkText(t, "MAIL FROM:<> SIZE="+strings.Repeat("9", digits))
	}
}

// lent is a string that is made of the bytes themselves, so that it shows when they change.
func lent(b []byte) string { return unsafe.String(unsafe.SliceData(b), len(b)) }

// spoil makes all bytes other ones.
func spoil(b []byte) {
	for place := range b {
		b[place] = 'X'
	}
}

// P17.2, P17.3: nothing that is answered shares memory with what was handed in, nor is that changed.
func TestAnswersAreNew(t *testing.T) {
	for _, s := range []string{"EHLO mail.b", "helo x", "MAIL FROM:<Ann@b.c> SIZE=1", "MAIL FROM:<\"a b\"@[c]>", "MAIL FROM:<\u00e4@\u00c4> SMTPUTF8", "RCPT TO:<a@b>", "RCPT TO:<PostMaster>", "NOOP x", "DATA", "DATA x"} {
		want, code := Parse(table, s)
		bytes := []byte(s)
		got, again := Parse(table, lent(bytes))
		if string(bytes) != s {
			t.Errorf("%q: changed", s)
		}
		spoil(bytes)
		if got != want || code != again {
			t.Errorf("%q: what was handed in is kept: %#v", s, got)
		}
	}
	for verb := range 8 {
		for _, name := range []string{"", "x", "mail.b"} {
			bytes := []byte(name)
			c := api.Command{Verb: verb, Name: lent(bytes), Path: at(lent(bytes), lent(bytes)), Size: -1}
			want := strings.Clone(Print(c))
			got := Print(c)
			if string(bytes) != name {
				t.Errorf("%q: changed", name)
			}
			spoil(bytes)
			if got != want {
				t.Errorf("%d, %q: what was handed in is kept: %q", verb, name, got)
			}
		}
	}
}
