package precis

import (
	"unicode/utf8"

	"pillarbox/api"
	"pillarbox/bidi"
	"pillarbox/context"
	"pillarbox/fold"
	"pillarbox/label"
	"pillarbox/ucd"
)

// slow reads the chapter's words one by one: of characters from the rows of the tables, of what they need place by place.
type slow struct {
	u      ucd.Table
	ranges []api.Range
	splits map[rune]api.Split
}

func newSlow() slow {
	s := slow{ucd.New(), api.Ranges(), map[rune]api.Split{}}
	for _, row := range api.Splits() {
		s.splits[row.Rune] = row
	}
	one := rune('!')
	for r := rune(0xff01); r <= 0xff5e; r++ {
		s.splits[r] = api.Split{Rune: r, One: one, Soft: true, Out: true}
		one++
	}
	return s
}

// isUpper tells whether r is a great letter by its row.
func (s slow) isUpper(r rune) bool {
	for _, row := range s.ranges {
		if row.Lo <= r && r <= row.Hi {
			return row.Cat == api.CatUpper
		}
	}
	return false
}

// char is P10.1.
func (s slow) char(r rune) bool {
	if r > 0x20 && r < 0x7f {
		return true
	}
	if s.isUpper(r) && !s.splits[r].Soft && !s.splits[r].Out {
		return true
	}
	return label.Char(s.u, r)
}

// class is P10.2.
func (s slow) class(text string) api.Errno {
	if !utf8.ValidString(text) {
		return api.ErrUtf
	}
	if len(text) == 0 {
		return api.ErrEmpty
	}
	l := []rune(text)
	for at, r := range l {
		switch context.Need(s.u, l, at) {
		case api.NeedMissed:
			return api.ErrChar
		case api.NeedNothing:
			if !s.char(r) {
				return api.ErrChar
			}
		}
	}
	return api.OK
}

// name is the first half of P10.3.
func (s slow) name(text string) (string, api.Errno) {
	f, is := fold.Fold(s.u, text)
	if !is {
		return "", api.ErrUtf
	}
	if e := s.class(f); e != api.OK {
		return "", e
	}
	if bidi.Has(s.u, []rune(f)) {
		if !bidi.Rule(s.u, []rune(f)) {
			return "", api.ErrBidi
		}
	}
	return f, api.OK
}

// alike is the second half of P10.3.
func (s slow) alike(a, b string) bool {
	one, e := s.name(a)
	two, f := s.name(b)
	return e == api.OK && f == api.OK && one == two
}
