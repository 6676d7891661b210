package mailbox

import (
	"regexp"
	"strings"
	"unicode/utf8"

	"pillarbox/api"
	"pillarbox/domain"
	"pillarbox/lex"
	"pillarbox/precis"
	"pillarbox/ucd"
)

// slowShape is P13.2, a letter a token: w and n do not count, q is a quote, a an atom, l a literal, a sign is itself, x is all others.
var slowShape = regexp.MustCompile(`\A[wn]*(q|a(?:\.a)*)[wn]*@[wn]*(l|a(?:\.a)*)[wn]*`)

var (
	slowQuoted  = regexp.MustCompile(`\A(?:[\t -~]|[^\x00-\x7f])*\z`)
	slowLiteral = regexp.MustCompile(`\A\[(?:[!-Z^-~]|[^\x00-\x7f])*\]\z`)
)

// slowLetter is the letter of a token.
func slowLetter(k api.Token) string {
	switch {
	case k.Kind == api.TokWhite:
		return "w"
	case k.Kind == api.TokNote:
		return "n"
	case k.Kind == api.TokQuote:
		return "q"
	case k.Kind == api.TokAtom:
		return "a"
	case k.Kind == api.TokLiteral:
		return "l"
	case k.Kind == api.TokSign && (k.Text == "." || k.Text == "@"):
		return k.Text
	}
	return "x"
}

// slowTake is P13.2.
func slowTake(l []api.Token) (api.Mailbox, int, bool) {
	letters := ""
	for _, k := range l {
		letters += slowLetter(k)
	}
	found := slowShape.FindStringSubmatchIndex(letters)
	if found == nil {
		return api.Mailbox{}, 0, false
	}
	return api.Mailbox{Local: slowTexts(l[found[2]:found[3]]), Domain: slowTexts(l[found[4]:found[5]])}, found[1], true
}

// slowTexts is what tokens say, a literal with its ends.
func slowTexts(l []api.Token) string {
	s := ""
	for _, k := range l {
		if k.Kind == api.TokLiteral {
			s += "[" + k.Text + "]"
		} else {
			s += k.Text
		}
	}
	return s
}

// slowRight is P13.1: all that is wrong is asked, then the first of it is told.
func slowRight(t ucd.Table, m api.Mailbox) api.Errno {
	_, behind := domain.ToASCII(t, m.Domain)
	if len(m.Domain) > 0 && m.Domain[0] == 0x5b {
		behind = api.OK
		if !utf8.ValidString(m.Domain) || !slowLiteral.MatchString(m.Domain) {
			behind = api.ErrForm
		}
	}
	for _, c := range []struct {
		wrong bool
		e     api.Errno
	}{
		{len(m.Local) == 0, api.ErrEmpty},
		{len(m.Local) >= 65, api.ErrLong},
		{!utf8.ValidString(m.Local), api.ErrUtf},
		{!slowQuoted.MatchString(m.Local), api.ErrChar},
	} {
		if c.wrong {
			return c.e
		}
	}
	return behind
}

// slowParse is the first half of P13.3.
func slowParse(t ucd.Table, s string) (api.Mailbox, api.Errno) {
	l, _, e := lex.Lex(s)
	if e != api.OK {
		return api.Mailbox{}, e
	}
	m, n, is := slowTake(l)
	if !is || n != len(l) {
		return api.Mailbox{}, api.ErrForm
	}
	if e := slowRight(t, m); e != api.OK {
		return api.Mailbox{}, e
	}
	return m, api.OK
}

// slowPrint is the second half of P13.3.
func slowPrint(m api.Mailbox) string {
	if lex.Words(m.Local) {
		return m.Local + "\x40" + m.Domain
	}
	said := strings.ReplaceAll(m.Local, "\x5c", "\x5c\x5c")
	return "\x22" + strings.ReplaceAll(said, "\x22", "\x5c\x22") + "\x22\x40" + m.Domain
}

// slowCanonical is the first half of P13.4.
func slowCanonical(t ucd.Table, m api.Mailbox) api.Mailbox {
	name, e := precis.Name(t, m.Local)
	if e != api.OK {
		name = m.Local
	}
	ascii, e := domain.ToASCII(t, m.Domain)
	if e != api.OK {
		ascii = m.Domain
	}
	if len(m.Domain) > 0 && m.Domain[0] == 0x5b {
		small := []byte(m.Domain)
		for at, b := range small {
			if b >= 0x41 && b <= 0x5a {
				small[at] = b + 0x20
			}
		}
		ascii = string(small)
	}
	return api.Mailbox{Local: name, Domain: ascii}
}

// slowSame is the second half of P13.4.
func slowSame(t ucd.Table, a, b api.Mailbox) bool {
	if slowRight(t, a) != api.OK || slowRight(t, b) != api.OK {
		return false
	}
	return slowCanonical(t, a) == slowCanonical(t, b)
}

// slowEight tells whether s has a byte of 80 or more.
func slowEight(s string) bool {
	for _, b := range []byte(s) {
		if b >= 0x80 {
			return true
		}
	}
	return false
}

// slowDown is P13.5.
func slowDown(t ucd.Table, m api.Mailbox) (api.Mailbox, api.Errno) {
	if slowEight(m.Local) {
		return api.Mailbox{}, api.ErrChar
	}
	if len(m.Domain) > 0 && m.Domain[0] == 0x5b {
		if slowEight(m.Domain) {
			return api.Mailbox{}, api.ErrChar
		}
		return m, api.OK
	}
	ascii, e := domain.ToASCII(t, m.Domain)
	if e != api.OK {
		return api.Mailbox{}, e
	}
	if slowEight(m.Domain) {
		return api.Mailbox{Local: m.Local, Domain: ascii}, api.OK
	}
	return m, api.OK
}
