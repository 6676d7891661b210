package reply

import (
	"fmt"
	"slices"
	"strconv"
	"strings"
	"testing"
	"unsafe"

	"pillarbox/api"
	"pillarbox/rows"
)

// said is a reply.
func said(code int, lines ...string) api.Reply { return api.Reply{Code: code, Lines: lines} }

// nothing is what stands beside an error, and beside a line that is read on.
var nothing = api.Reply{}

// many is n lines that can be told from one another.
func many(n int) []string {
	var l []string
	for k := range n {
		l = append(l, "line "+strconv.Itoa(k))
	}
	return l
}

// begun is a parser that read n lines of a reply with the code 250.
func begun(t *testing.T, n int) *Parser {
	t.Helper()
	p := &Parser{}
	for _, text := range many(n) {
		wantMore(t, p, "250-"+text)
	}
	return p
}

// codes are some, right and not.
var codes = []int{200, 201, 220, 250, 299, 300, 354, 399, 400, 421, 450, 499, 500, 550, 554, 598, 599, 199, 600, 100, 150, 0, 1, 2, 25, 99, 601, 999, 2500, -1, -250, -599, 200 + 1<<32, 250 - 1<<32, api.MaxInt, api.MinInt}

// rightTexts may stand in a line, barredBytes may not.
var (
	rightTexts  = []string{"", " ", "a", "a b", "-", "-a", " a", "  ", "a ", "--", "- ", "250 a", "250-a", "~", "a\x80", "\xff", "\u00e4", "\u00e4 \U0010ffff", "\x20\x7e\x80\xff", "\xc3\x28", strings.Repeat("a", 5000)}
	barredBytes = "\x00\x01\x02\x03\x04\x05\x06\x07\x08\x09\x0a\x0b\x0c\x0d\x0e\x0f\x10\x11\x12\x13\x14\x15\x16\x17\x18\x19\x1a\x1b\x1c\x1d\x1e\x1f\x7f"
)

// sameReply tells whether a and b are the same.
func sameReply(a, b api.Reply) bool { return a.Code == b.Code && slices.Equal(a.Lines, b.Lines) }

// shown is r as tests tell it.
func shown(r api.Reply) string { return fmt.Sprintf("{%d, %.99q}", r.Code, r.Lines) }

func wantRight(t *testing.T, r api.Reply, want bool) {
	t.Helper()
	if Right(r) != want {
		t.Errorf("Right of %s: want %v", shown(r), want)
	}
}

func wantPrint(t *testing.T, r api.Reply, want ...string) {
	t.Helper()
	if got := Print(r); !slices.Equal(got, want) {
		t.Errorf("Print of %s: got %.99q, want %.99q", shown(r), got, want)
	}
}

// wantTake asks for all that Take answers, and for Open behind it.
func wantTake(t *testing.T, p *Parser, s string, r api.Reply, done bool, e api.Errno, open bool) {
	t.Helper()
	gotReply, gotDone, gotError := p.Take(s)
	if !sameReply(gotReply, r) || gotDone != done || gotError != e {
		t.Errorf("Take of %.99q: got %s, %v, %v, want %s, %v, %v", s, shown(gotReply), gotDone, gotError, shown(r), done, e)
	}
	if p.Open() != open {
		t.Errorf("Open behind %.99q: want %v", s, open)
	}
}

func wantMore(t *testing.T, p *Parser, s string) {
	t.Helper()
	wantTake(t, p, s, nothing, false, api.OK, true)
}

func wantReply(t *testing.T, p *Parser, s string, r api.Reply) {
	t.Helper()
	wantTake(t, p, s, r, true, api.OK, false)
}

func wantError(t *testing.T, p *Parser, s string, e api.Errno) {
	t.Helper()
	wantTake(t, p, s, nothing, false, e, false)
}

// wantForm asks for ErrForm of s as the first line, behind one, behind 31 and behind 32, and that what comes behind it is read anew.
func wantForm(t *testing.T, s string) {
	t.Helper()
	for _, n := range []int{0, 1, 2, 31, 32} {
		p := begun(t, n)
		wantError(t, p, s, api.ErrForm)
		wantMore(t, p, "550-a")
		wantReply(t, p, "550 b", said(550, "a", "b"))
	}
}

func wantKeys(t *testing.T, r api.Reply, want ...string) {
	t.Helper()
	if got := Keys(r); !slices.Equal(got, want) {
		t.Errorf("Keys of %s: got %.99q, want %.99q", shown(r), got, want)
	}
}

// P18.1: the codes from 200 to 599, and no others.
func TestRightCodes(t *testing.T) {
	for code := -1000; code <= 2000; code++ {
		wantRight(t, said(code, "a"), 200 <= code && code <= 599)
	}
	for _, code := range codes {
		wantRight(t, said(code, "a"), slowClass(code) > 0)
		wantRight(t, said(code), false)
		wantRight(t, said(code, "\r"), false)
	}
}

// P18.1: 1 to 32 lines, empty ones too.
func TestRightCounts(t *testing.T) {
	for _, n := range []int{0, 1, 2, 31, 32, 33, 34, 64, 1000} {
		wantRight(t, said(250, many(n)...), 1 <= n && n <= 32)
		wantRight(t, said(250, make([]string, n)...), 1 <= n && n <= 32)
	}
	wantRight(t, api.Reply{Code: 250, Lines: []string{}}, false)
	wantRight(t, nothing, false)
}

// P18.1: each byte, at each place of the first, a middle and the last line.
func TestRightBytes(t *testing.T) {
	for k := range 0x100 {
		c := string([]byte{byte(k)})
		fine := !strings.Contains(barredBytes, c)
		if want := k >= 0x20 && k != 0x7f; fine != want {
			t.Fatal(k)
		}
		for _, text := range []string{c, c + "a", "a" + c, "a" + c + "b", "\xc3" + c, "\xe2\x82" + c, c + "\u00e4", strings.Repeat("a", 999) + c} {
			wantRight(t, said(250, text), fine)
			for place := range 3 {
				l := []string{"x", "", "\u00e4 y"}
				l[place] = text
				wantRight(t, said(250, l...), fine)
				l = many(32)
				l[place*15] = text
				wantRight(t, said(250, l...), fine)
			}
			l := many(32)
			l[31] = text
			wantRight(t, said(250, l...), fine)
		}
	}
	for _, text := range rightTexts {
		wantRight(t, said(599, text), true)
		wantRight(t, said(200, "", text, ""), true)
	}
}

// P18.1: a code's hundred, where there is one.
func TestClass(t *testing.T) {
	for _, c := range []struct{ code, want int }{
		{199, 0}, {200, 2}, {201, 2}, {250, 2}, {299, 2}, {300, 3}, {354, 3}, {399, 3}, {400, 4}, {421, 4}, {499, 4}, {500, 5}, {550, 5}, {599, 5}, {600, 0},
		{0, 0}, {1, 0}, {2, 0}, {100, 0}, {-1, 0}, {-200, 0}, {-250, 0}, {-599, 0}, {999, 0}, {2500, 0}, {20000, 0}, {200 + 256, 4}, {250 + 1<<16, 0}, {250 + 1<<32, 0}, {250 - 1<<32, 0}, {api.MaxInt, 0}, {api.MinInt, 0},
	} {
		if got := Class(c.code); got != c.want {
			t.Errorf("%d: got %d, want %d", c.code, got, c.want)
		}
	}
	for code := -1000; code <= 2000; code++ {
		if Class(code) != slowClass(code) {
			t.Errorf("%d: got %d, want %d", code, Class(code), slowClass(code))
		}
	}
}

// P18.2: each line has the code ahead, and the sign that tells whether more come.
func TestPrint(t *testing.T) {
	wantPrint(t, said(250, "a", "b"), "250-a", "250 b")
	wantPrint(t, said(250, "a"), "250 a")
	wantPrint(t, said(250, ""), "250 ")
	wantPrint(t, said(200, "", ""), "200-", "200 ")
	wantPrint(t, said(599, "mx", "SIZE 9", "", "8BitMime"), "599-mx", "599-SIZE 9", "599-", "599 8BitMime")
	wantPrint(t, said(354, "-", " ", "-a", " a", "--", "  ", "- "), "354--", "354- ", "354--a", "354- a", "354---", "354-  ", "354 - ")
	wantPrint(t, said(220, " a"), "220  a")
	wantPrint(t, said(220, "-a"), "220 -a")
	wantPrint(t, said(421, "\u00e4", "\x80\xff"), "421-\u00e4", "421 \x80\xff")
	wantPrint(t, said(550, strings.Repeat("a", 5000)), "550 "+strings.Repeat("a", 5000))
	var want []string
	for _, text := range many(31) {
		want = append(want, "450-"+text)
	}
	wantPrint(t, said(450, many(32)...), append(want, "450 line 31")...)
}

// P18.2: what is not right is not printed.
func TestPrintNothing(t *testing.T) {
	wantPrint(t, nothing)
	wantPrint(t, said(250))
	wantPrint(t, said(250, many(33)...))
	for _, code := range codes {
		if slowClass(code) == 0 {
			wantPrint(t, said(code, "a"))
		}
	}
	for _, b := range []byte(barredBytes) {
		c := string([]byte{b})
		for _, r := range []api.Reply{said(250, c), said(250, "a"+c, "b"), said(250, "a", c+"b"), said(250, "a", "b", "c"+c)} {
			wantPrint(t, r)
		}
	}
}

// P18.3: replies of one line, and of more; where no sign is, the line is empty.
func TestTake(t *testing.T) {
	p := &Parser{}
	if p.Open() {
		t.Error("a zero parser is open")
	}
	for _, c := range []struct {
		lines []string
		want  api.Reply
	}{
		{[]string{"250-a", "250 b"}, said(250, "a", "b")},
		{[]string{"250 a"}, said(250, "a")}, {[]string{"250 "}, said(250, "")}, {[]string{"250"}, said(250, "")},
		{[]string{"200"}, said(200, "")}, {[]string{"599 x"}, said(599, "x")}, {[]string{"354-", "354"}, said(354, "", "")}, {[]string{"354-", "354 "}, said(354, "", "")},
		{[]string{"250--", "250-a", "250- ", "250- b c", "250-250 d", "250  e"}, said(250, "-", "a", " ", " b c", "250 d", " e")},
		{[]string{"250 -"}, said(250, "-")}, {[]string{"250 -a"}, said(250, "-a")}, {[]string{"250  "}, said(250, " ")}, {[]string{"250 250-a"}, said(250, "250-a")},
		{[]string{"421-\u00e4", "421-\x80\xff", "421 ~\U0010ffff"}, said(421, "\u00e4", "\x80\xff", "~\U0010ffff")},
		{[]string{"550 " + strings.Repeat("a b-", 2000)}, said(550, strings.Repeat("a b-", 2000))},
		{[]string{"220-a", "220-a", "220-a", "220 a"}, said(220, "a", "a", "a", "a")},
	} {
		last := len(c.lines) - 1
		for _, q := range []*Parser{p, {}} {
			for _, s := range c.lines[:last] {
				wantMore(t, q, s)
			}
			wantReply(t, q, c.lines[last], c.want)
		}
	}
}

// P18.3: all rows of three digits; just those from 200 to 599 are codes.
func TestTakeCodes(t *testing.T) {
	for code := range 1000 {
		s := strconv.Itoa(code + 1000)[1:]
		p := &Parser{}
		if code < 200 || code > 599 {
			for _, behind := range []string{"", " ", "-", " a", "-a"} {
				wantError(t, p, s+behind, api.ErrForm)
			}
			continue
		}
		wantReply(t, p, s, said(code, ""))
		wantReply(t, p, s+" a", said(code, "a"))
		wantMore(t, p, s+"-a")
		wantReply(t, p, s+" b", said(code, "a", "b"))
	}
	for _, s := range []string{"000", "199", "600", "999", "000 a", "199 a", "600 a", "999 a", "100-", "199-a", "600-a"} {
		wantForm(t, s)
	}
}

// P18.3: lines that are too short for a code, and those that begin with something else.
func TestTakeNoCode(t *testing.T) {
	for _, s := range []string{
		"", "2", "25", " ", "-", "  ", "2 ", "2-", "25 ", "25-", "25 a", "25-a", "2 5", "a", "abc", "abcd", " 250", "-250", "+250", "+25 a", "-25 a", "+25", "-25", "25.", "2.5", "2_5", "0x2", "1e2", "25\n", "\x00250",
		"2500", "2500 a", "2500-a", "0250", "0250 a", "02 a", "025 a", "250a", "250a b", "250_a", "250.", "250\t", "250\ta", "250\x00", "250\r", "250\n", "250\r\n", "250\x7f", "250\u00e4", "250\u00a0a", "250\u2010a", "250\u2212a", "250=a", "250,a", "2\u00e4 a", "\u0662\u0665\u0660 a", "\uff12\uff15\uff10 a",
	} {
		wantForm(t, s)
	}
}

// P18.3: each byte at each of the first four places.
func TestTakeBytes(t *testing.T) {
	for k := range 0x100 {
		c := string([]byte{byte(k)})
		isDigit := "0" <= c && c <= "9"
		for place := range 3 {
			for _, s := range []string{"250", "250 a", "250-a"} {
				s = s[:place] + c + s[place+1:]
				if isDigit && (place > 0 || "2" <= c && c <= "5") {
					code, _ := strconv.Atoi(s[:3])
					p := &Parser{}
					switch s[3:] {
					case "":
						wantReply(t, p, s, said(code, ""))
					case " a":
						wantReply(t, p, s, said(code, "a"))
					case "-a":
						wantMore(t, p, s)
					}
					continue
				}
				wantForm(t, s)
			}
		}
		switch c {
		case "-":
			wantMore(t, &Parser{}, "250"+c)
			wantMore(t, begun(t, 1), "250"+c+"a")
		case " ":
			wantReply(t, &Parser{}, "250"+c, said(250, ""))
			wantReply(t, begun(t, 1), "250"+c+"a", said(250, "line 0", "a"))
		default:
			for _, behind := range []string{"", " ", "-", "a", " a", "-a", c} {
				wantForm(t, "250"+c+behind)
			}
		}
	}
}

// P18.3: each byte at each place behind the sign.
func TestTakeTexts(t *testing.T) {
	for k := range 0x100 {
		c := string([]byte{byte(k)})
		for _, text := range []string{c, c + "a", "a" + c, "a" + c + "b", " " + c, "-" + c, c + c, "\xc3" + c, "a b" + c, strings.Repeat("a", 600) + c} {
			if strings.Contains(barredBytes, c) {
				wantForm(t, "250 "+text)
				wantForm(t, "250-"+text)
				continue
			}
			wantReply(t, &Parser{}, "250 "+text, said(250, text))
			p := &Parser{}
			wantMore(t, p, "250-"+text)
			wantReply(t, p, "250 "+text, said(250, text, text))
		}
	}
	for _, text := range rightTexts {
		wantReply(t, begun(t, 2), "250 "+text, said(250, "line 0", "line 1", text))
	}
}

// P18.3: all lines of a reply have one code; what has another one is not read as the first of the next reply.
func TestTakeOtherCodes(t *testing.T) {
	for _, code := range []string{"200", "249", "251", "259", "150", "350", "599", "650", "052", "025"} {
		for _, behind := range []string{"", " ", " a", "-", "-a"} {
			for _, n := range []int{1, 2, 31, 32} {
				p := begun(t, n)
				wantError(t, p, code+behind, api.ErrForm)
				wantReply(t, p, "250 c", said(250, "c"))
			}
		}
	}
	p := begun(t, 1)
	wantError(t, p, "251-a", api.ErrForm)
	wantReply(t, p, "251 b", said(251, "b"))
	wantReply(t, p, "252 c", said(252, "c"))
	wantMore(t, p, "253-d")
	wantReply(t, p, "253 e", said(253, "d", "e"))
}

// P18.3: 32 lines are a reply; of a line more it is told that there are too many, if nothing is wrong within it.
func TestTakeFull(t *testing.T) {
	for _, n := range []int{29, 30, 31} {
		wantReply(t, begun(t, n), "250 a", said(250, append(many(n), "a")...))
		wantReply(t, begun(t, n), "250", said(250, append(many(n), "")...))
		wantMore(t, begun(t, n), "250-a")
	}
	for _, s := range []string{"250 a", "250 ", "250", "250-a", "250-", "250 \xff", "250-\u00e4"} {
		p := begun(t, 32)
		wantError(t, p, s, api.ErrFull)
		wantReply(t, p, "251 b", said(251, "b"))
		p = begun(t, 32)
		wantError(t, p, s, api.ErrFull)
		for _, text := range many(31) {
			wantMore(t, p, "420-"+text)
		}
		wantReply(t, p, "420 end", said(420, append(many(31), "end")...))
	}
	for _, s := range []string{"251 a", "251", "251-a", "250 \x01", "250-\x7f", "250a", "25", "", "600 a", "2x0 a"} {
		wantError(t, begun(t, 32), s, api.ErrForm)
	}
	// What is behind an error is the first line again, also where it is of the same reply.
	p := begun(t, 32)
	wantError(t, p, "250-a", api.ErrFull)
	wantMore(t, p, "250-b")
	wantReply(t, p, "250 c", said(250, "b", "c"))
}

// P18.3: of several wrong things within a line there is one error; behind it, and behind a reply, all is read anew.
func TestTakeAnew(t *testing.T) {
	for _, wrong := range []string{"", "251x\x00", "600_\x7f", "2x0-\r", "251-\n", "25"} {
		wantForm(t, wrong)
		p := &Parser{}
		for range 3 {
			wantError(t, p, wrong, api.ErrForm)
			wantMore(t, p, "250-a")
			wantError(t, p, wrong, api.ErrForm)
			wantReply(t, p, "350", said(350, ""))
			wantError(t, p, wrong, api.ErrForm)
		}
	}
	p := &Parser{}
	for code := 200; code <= 599; code++ {
		s := strconv.Itoa(code)
		wantMore(t, p, s+"-a")
		wantReply(t, p, s, said(code, "a", ""))
		wantReply(t, p, s+" b", said(code, "b"))
	}
}

// P18.3: Open, line by line.
func TestOpen(t *testing.T) {
	p := &Parser{}
	for _, c := range []struct {
		s    string
		open bool
	}{{"250-a", true}, {"250-b", true}, {"250 c", false}, {"250 d", false}, {"250", false}, {"354-", true}, {"x", false}, {"x", false}, {"354-", true}, {"355-", false}, {"355-", true}, {"355", false}} {
		p.Take(c.s)
		for range 2 {
			if p.Open() != c.open {
				t.Errorf("%q: want %v", c.s, c.open)
			}
		}
	}
	for n := range 33 {
		if p := begun(t, n); p.Open() != (n > 0) {
			t.Errorf("%d lines", n)
		}
	}
}

// P18.3: parsers know nothing of one another, copies of one neither.
func TestParsersApart(t *testing.T) {
	p, q := &Parser{}, &Parser{}
	wantMore(t, p, "250-a")
	wantReply(t, q, "354 b", said(354, "b"))
	for n := range 5 {
		p := begun(t, n+1)
		copied := *p
		wantMore(t, p, "250-c")
		wantMore(t, &copied, "250-d")
		wantReply(t, p, "250 e", said(250, append(many(n+1), "c", "e")...))
		wantReply(t, &copied, "250 f", said(250, append(many(n+1), "d", "f")...))
	}
}

// P18.4: of each line but the first one what stands ahead of its first blank, small.
func TestKeys(t *testing.T) {
	wantKeys(t, nothing)
	wantKeys(t, said(250))
	wantKeys(t, said(250, "a"))
	wantKeys(t, said(250, "SIZE 9"))
	wantKeys(t, said(250, "a", "b"), "b")
	wantKeys(t, said(250, "mx", "SIZE 9", "", "8BitMime"), "size", "", "8bitmime")
	wantKeys(t, said(250, "", "B c", " D", "  ", " ", "E  f", "G h i", "J", "k-L=M n"), "b", "", "", "", "e", "g", "j", "k-l=m")
	wantKeys(t, said(250, "x", "a", "A", "a", "A b"), "a", "a", "a", "a")
	wantKeys(t, said(250, "x", "\u00c4B c", "\xc4\x80Z\xff y", "\u212aK", "\uff21A", "\u0130I"), "\u00c4b", "\xc4\x80z\xff", "\u212ak", "\uff21a", "\u0130i")
	wantKeys(t, said(250, "x", "AZaz@[`{", "A\tB c", "A\u00a0B c", "A\u3000B"), "azaz@[`{", "a\tb", "a\u00a0b", "a\u3000b")
	// What is not right has keys too.
	wantKeys(t, said(0, "x", "Y\r z"), "y\r")
	wantKeys(t, said(-1, "x", "\x00A\x7f b"), "\x00a\x7f")
	if got := Keys(said(250, slices.Repeat([]string{"A b"}, 1000)...)); !slices.Equal(got, slices.Repeat([]string{"a"}, 999)) {
		t.Error(len(got))
	}
	for k := range 0x100 {
		c := string([]byte{byte(k)})
		r := said(250, "x", c, "a"+c+"b", "Q"+c, c+"Q r")
		wantKeys(t, r, slowKeys(r)...)
	}
}

// P18.3: all short rows of what lines are made of, as the first line and as others, as the chapter's words tell it by a pattern.
func TestShortLines(t *testing.T) {
	rows.Texts([]string{"2", "5", "6", "0", "-", " ", "a", "\x1f", "\xff"}, 6, func(s string) {
		var p Parser
		var slow slowParser
		for _, ahead := range []string{s, "250-b", s, "250 c"} {
			r, done, e := slow.take(ahead)
			wantTake(t, &p, ahead, r, done, e, slow.ahead != nil)
		}
	})
}

// P18.3: all short rows of lines are read as the chapter's words, done slowly, tell it.
func TestRowsOfLines(t *testing.T) {
	lines := []string{"250-a", "250 b", "250", "250-", "251-c", "251 ", "25", "250x", "250-\x01"}
	rows.Texts([]string{"0", "1", "2", "3", "4", "5", "6", "7", "8"}, 5, func(calls string) {
		var p Parser
		var slow slowParser
		for _, call := range []byte(calls) {
			s := lines[call-'0']
			r, done, e := slow.take(s)
			wantTake(t, &p, s, r, done, e, slow.ahead != nil)
		}
	})
}

// P18.1, P18.2, P18.4, P18.6: many replies are asked as the chapter's words tell it; the right ones are printed, and read as they were, by their last line, one behind the other.
func TestManyReplies(t *testing.T) {
	parser := &Parser{}
	check := func(r api.Reply) {
		is := slowRight(r)
		wantRight(t, r, is)
		wantKeys(t, r, slowKeys(r)...)
		lines := slowPrint(r)
		wantPrint(t, r, lines...)
		for _, p := range []*Parser{parser, {}} {
			for k, s := range lines {
				if k < len(lines)-1 {
					wantMore(t, p, s)
				} else {
					wantReply(t, p, s, r)
				}
			}
		}
	}
	texts := append([]string{"\x00", "a\x1f", "\x7f", "a\r\nb", "\t", "A B"}, rightTexts...)
	for _, code := range codes {
		for _, n := range []int{0, 1, 2, 31, 32, 33} {
			check(said(code, many(n)...))
		}
		for _, a := range texts {
			check(said(code, a))
			for _, b := range texts {
				check(said(code, a, b))
				check(said(code, a, b, "c", a))
			}
		}
	}
	rows.Texts([]string{"a", " ", "-", "\n", "B"}, 6, func(s string) {
		check(said(250, strings.Split(s, "\n")...))
	})
}

// P18.6: a last line without a text may have no blank either.
func TestNoSign(t *testing.T) {
	for _, n := range []int{0, 1, 2, 31} {
		r := said(250, append(many(n), "")...)
		p := &Parser{}
		for k, s := range Print(r) {
			if k < n {
				wantMore(t, p, s)
			} else {
				wantReply(t, p, strings.TrimSuffix(s, " "), r)
			}
		}
	}
}

// lent is a string that is made of the bytes themselves, so that it shows when they change.
func lent(b []byte) string { return unsafe.String(unsafe.SliceData(b), len(b)) }

// lentReply is a reply of texts that can be spoilt, with room behind its lines.
func lentReply(code int, lines ...string) (api.Reply, func()) {
	var bytes [][]byte
	r := said(code)
	for _, text := range append(slices.Clone(lines), "room", "behind") {
		bytes = append(bytes, []byte(text))
		r.Lines = append(r.Lines, lent(bytes[len(bytes)-1]))
	}
	r.Lines = r.Lines[:len(lines)]
	return r, func() {
		for _, text := range bytes {
			for k := range text {
				text[k] = 'X'
			}
		}
	}
}

// overwrite changes all of a list, and the room behind it.
func overwrite(l []string) {
	for k := range l[:cap(l)] {
		l[:cap(l)][k] = "XX"
	}
}

// P18.5: lines may change as soon as they were taken.
func TestLinesAreNotKept(t *testing.T) {
	p := &Parser{}
	for _, s := range []string{"250-ab", "250-", "250-\u00e4 c", "250-ab"} {
		b := []byte(s)
		wantMore(t, p, lent(b))
		if string(b) != s {
			t.Errorf("%q was changed to %q", s, b)
		}
		clear(b)
	}
	b := []byte("250 de")
	r, done, e := p.Take(lent(b))
	clear(b)
	if want := said(250, "ab", "", "\u00e4 c", "ab", "de"); !done || e != api.OK || !sameReply(r, want) {
		t.Errorf("got %s, %v, %v, want %s", shown(r), done, e, shown(want))
	}
}

// P18.5: what was answered stays as it was, and whatever is done to it changes nothing.
func TestTakenIsNew(t *testing.T) {
	p := &Parser{}
	take := func(lines ...string) api.Reply {
		for _, s := range lines[:len(lines)-1] {
			wantMore(t, p, s)
		}
		r, done, e := p.Take(lines[len(lines)-1])
		if !done || e != api.OK {
			t.Fatal(lines, done, e)
		}
		return r
	}
	first := take("250-a", "250-b", "250 c")
	second := take("350-d", "350-e", "350-f", "350 g")
	wantMore(t, p, "550-h")
	wantError(t, p, "x", api.ErrForm)
	wantMore(t, p, "550-i")
	if want := said(250, "a", "b", "c"); !sameReply(first, want) {
		t.Errorf("got %s, want %s", shown(first), shown(want))
	}
	overwrite(first.Lines)
	if want := said(350, "d", "e", "f", "g"); !sameReply(second, want) {
		t.Errorf("got %s, want %s", shown(second), shown(want))
	}
	overwrite(second.Lines)
	wantMore(t, p, "550-j")
	wantReply(t, p, "550 k", said(550, "i", "j", "k"))
}

// P18.5: Right, Print and Keys change nothing of what is handed in, nor the room behind it, nor keep it.
func TestPrintedIsNew(t *testing.T) {
	for _, l := range [][]string{nil, {""}, {"ab"}, {"ab", "cd ef", "", "gh"}, {"x", "small", "small"}, many(32), many(33), {"ab", "c\r d"}} {
		r, spoil := lentReply(250, l...)
		right, printed, keys := Right(r), Print(r), Keys(r)
		if !slices.Equal(r.Lines, l) || r.Lines[:len(l)+2][len(l)] != "room" || r.Lines[:len(l)+2][len(l)+1] != "behind" {
			t.Errorf("%q was changed to %q", l, r.Lines[:len(l)+2])
		}
		spoil()
		want := said(250, l...)
		if right != slowRight(want) || !slices.Equal(printed, slowPrint(want)) || !slices.Equal(keys, slowKeys(want)) {
			t.Errorf("%q: got %q, %q behind a change", l, printed, keys)
		}
		overwrite(Print(want))
		overwrite(Keys(want))
		wantPrint(t, want, slowPrint(want)...)
		wantKeys(t, want, slowKeys(want)...)
	}
}

// P18.5: no two answers share a text's memory, nor does one with what it was asked of.
func TestTextsAreApart(t *testing.T) {
	begins := map[*byte]bool{}
	p := &Parser{}
	line, key := "250-ab ab", said(250, "ab", "ab", "ab cd")
	for _, text := range append(key.Lines, line) {
		begins[unsafe.StringData(text)] = true
	}
	for range 3 {
		wantMore(t, p, line)
		wantMore(t, p, line)
		r, _, _ := p.Take("250 ab")
		for _, text := range slices.Concat(r.Lines, Print(key), Keys(key)) {
			if at := unsafe.StringData(text); begins[at] {
				t.Errorf("%q: its memory is another one's", text)
			} else {
				begins[at] = true
			}
		}
	}
}
