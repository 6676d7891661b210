package label

import (
	"strings"
	"unicode/utf8"

	"pillarbox/api"
	"pillarbox/bidi"
	"pillarbox/context"
	"pillarbox/fold"
	"pillarbox/norm"
	"pillarbox/puny"
	"pillarbox/ucd"
)

// slow reads the chapter's words one by one: of characters from the rows of the tables, of what they need place by place.
type slow struct {
	u      ucd.Table
	ranges []api.Range
	splits map[rune]api.Split
}

func newSlow() slow {
	s := slow{ucd.New(), api.Ranges(), map[rune]api.Split{}}
	for _, row := range api.Splits() {
		s.splits[row.Rune] = row
	}
	one := rune('!')
	for r := rune(0xff01); r <= 0xff5e; r++ {
		s.splits[r] = api.Split{Rune: r, One: one, Soft: true, Out: true}
		one++
	}
	return s
}

// cat tells the category of r.
func (s slow) cat(r rune) int {
	for _, row := range s.ranges {
		if row.Lo <= r && r <= row.Hi {
			return row.Cat
		}
	}
	return api.CatNone
}

// char is P8.1.
func (s slow) char(r rune) bool {
	if r == 0x2d {
		return true
	}
	c := s.cat(r)
	if c != api.CatLower && c != api.CatLetter && c != api.CatMark && c != api.CatDigit {
		return false
	}
	return !s.splits[r].Soft && !s.splits[r].Out
}

// slowBadDash tells the Words' bad dash, byte by byte.
func slowBadDash(s string) bool {
	for at, b := range []byte(s) {
		if b != '-' {
			continue
		}
		if at == 0 || at == len(s)-1 || at == 3 && s[2] == '-' {
			return true
		}
	}
	return false
}

// slowPlain is P8.2.
func slowPlain(s string) api.Errno {
	if len(s) == 0 {
		return api.ErrEmpty
	}
	if len(s) >= 64 {
		return api.ErrLong
	}
	for _, b := range []byte(s) {
		if strings.IndexByte("abcdefghijklmnopqrstuvwxyzABCDEFGHIJKLMNOPQRSTUVWXYZ0123456789-", b) < 0 {
			return api.ErrChar
		}
	}
	if slowBadDash(s) {
		return api.ErrDash
	}
	return api.OK
}

// allASCII tells whether no byte of s is 80 or more.
func allASCII(s string) bool {
	for _, b := range []byte(s) {
		if b >= 0x80 {
			return false
		}
	}
	return true
}

// strange tells whether one of l may not stand where it does.
func (s slow) strange(l []rune) bool {
	for at, r := range l {
		switch context.Need(s.u, l, at) {
		case api.NeedMissed:
			return true
		case api.NeedNothing:
			if !s.char(r) {
				return true
			}
		}
	}
	return false
}

// wide is P8.3.
func (s slow) wide(text string) api.Errno {
	if !utf8.ValidString(text) {
		return api.ErrUtf
	}
	if c, _ := norm.NFC(s.u, text); allASCII(text) || c != text {
		return api.ErrForm
	}
	if slowBadDash(text) {
		return api.ErrDash
	}
	l := []rune(text)
	if s.cat(l[0]) == api.CatMark {
		return api.ErrMark
	}
	if s.strange(l) {
		return api.ErrChar
	}
	if bidi.Has(s.u, l) && !bidi.Rule(s.u, l) {
		return api.ErrBidi
	}
	code, is := puny.Encode(l)
	if !is {
		return api.ErrPuny
	}
	if len(code) >= 60 {
		return api.ErrLong
	}
	return api.OK
}

// forms is P8.4.
func (s slow) forms(text string) (ascii, wide string, e api.Errno) {
	f, is := fold.Fold(s.u, text)
	if !is {
		return "", "", api.ErrUtf
	}
	if !allASCII(f) {
		if e := s.wide(f); e != api.OK {
			return "", "", e
		}
		code, _ := puny.Encode([]rune(f))
		return "xn--" + code, f, api.OK
	}
	rest, is := strings.CutPrefix(f, "xn--")
	if !is {
		if e := slowPlain(f); e != api.OK {
			return "", "", e
		}
		return f, f, api.OK
	}
	return s.ace(rest)
}

// ace is P8.4 of what stands behind the sign.
func (s slow) ace(rest string) (ascii, wide string, e api.Errno) {
	l, is := puny.Decode(rest)
	if !is {
		return "", "", api.ErrPuny
	}
	if len(rest)+4 >= 64 {
		return "", "", api.ErrLong
	}
	u := string(l)
	if e := s.wide(u); e != api.OK {
		return "", "", e
	}
	if code, _ := puny.Encode(l); code != rest {
		return "", "", api.ErrPuny
	}
	return "xn--" + rest, u, api.OK
}

// kind is P8.5.
func (s slow) kind(text string) int {
	if _, _, e := s.forms(text); e != api.OK {
		return api.LabelBad
	}
	if !allASCII(text) {
		return api.LabelWide
	}
	if strings.HasPrefix(strings.ToLower(text), "xn--") {
		return api.LabelAce
	}
	return api.LabelPlain
}
