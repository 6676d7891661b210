package list

import (
	"regexp"
	"strings"
	"unicode/utf8"

	"pillarbox/api"
	"pillarbox/lex"
	"pillarbox/mailbox"
	"pillarbox/ucd"
)

// The words of the chapter, a letter a token: w does not count, a is an atom, q a quote, e an empty one, l a literal, a sign is itself.
const (
	slowPlain  = `w*(?:[qe]|a(?:\.a)*)w*@w*(?:l|a(?:\.a)*)w*`
	slowBox    = `(?:` + slowPlain + `|[waqe]*<` + slowPlain + `>w*)`
	slowNamed  = `(?:w*[aq]w*|w*[aqe]w*[aqe][waqe]*)`
	slowGroup  = slowNamed + `:(?:w*|` + slowBox + `(?:,` + slowBox + `)*);w*`
	slowEither = `(?:` + slowBox + `|` + slowGroup + `)`
)

var (
	slowShape = regexp.MustCompile(`\A` + slowEither + `(?:,` + slowEither + `)*\z`)
	slowParts = regexp.MustCompile(`[^,:;]*(?::[^;]*;)?[^,]*`)
	slowQuote = regexp.MustCompile(`\A(?:[\t -~]|[^\x00-\x7f])*\z`)
)

// slowLetters are those of tokens.
func slowLetters(l []api.Token) string {
	letters := ""
	for _, k := range l {
		switch {
		case k.Kind == api.TokSign:
			letters += k.Text
		case k.Kind == api.TokQuote && k.Text == "":
			letters += "e"
		default:
			letters += map[int]string{api.TokWhite: "w", api.TokNote: "w", api.TokAtom: "a", api.TokQuote: "q", api.TokLiteral: "l"}[k.Kind]
		}
	}
	return letters
}

// slowSaid is the name of tokens that are a phrase.
func slowSaid(l []api.Token) string {
	name, between := "", ""
	for _, k := range l {
		if k.Kind == api.TokAtom || k.Kind == api.TokQuote {
			name, between = name+between+k.Text, "\x20"
		}
	}
	return name
}

// slowMailbox is the name, and the mailbox, of tokens that are a mailbox.
func slowMailbox(l []api.Token) (string, api.Mailbox) {
	letters := slowLetters(l)
	from, to := strings.Index(letters, "<"), strings.Index(letters, ">")
	if from < 0 {
		m, _, _ := mailbox.Take(l)
		return "", m
	}
	m, _, _ := mailbox.Take(l[from+1 : to])
	return slowSaid(l[:from]), m
}

// slowEntry is that of tokens that are one.
func slowEntry(l []api.Token) api.Address {
	letters := slowLetters(l)
	colon, end := strings.Index(letters, ":"), strings.Index(letters, ";")
	if colon < 0 {
		name, m := slowMailbox(l)
		return api.Address{Name: name, Boxes: []api.Mailbox{m}}
	}
	a := api.Address{Name: slowSaid(l[:colon]), Group: true}
	if !strings.Contains(letters, "@") {
		return a
	}
	for from := colon + 1; from <= end; {
		size := strings.IndexAny(letters[from:], ",;")
		_, m := slowMailbox(l[from : from+size])
		a.Boxes = append(a.Boxes, m)
		from += size + 1
	}
	return a
}

// slowParse is P15.1.
func slowParse(t ucd.Table, s string) ([]api.Address, api.Errno) {
	l, _, e := lex.Lex(s)
	if e != api.OK {
		return nil, e
	}
	letters := slowLetters(l)
	if !slowShape.MatchString(letters) {
		return nil, api.ErrForm
	}
	var entries []api.Address
	for from := 0; from <= len(l); {
		size := len(slowParts.FindString(letters[from:]))
		entries = append(entries, slowEntry(l[from:from+size]))
		from += size + 1
	}
	all := slowBoxes(entries)
	if len(all) >= 101 {
		return nil, api.ErrFull
	}
	for _, m := range all {
		if e := mailbox.Right(t, m); e != api.OK {
			return nil, e
		}
	}
	return entries, api.OK
}

// slowRight is P15.2: what is wrong of each kind is asked of all entries, then the first kind is told that any has.
func slowRight(t ucd.Table, l []api.Address) api.Errno {
	empty, shape, broken, barred := len(l) == 0, false, false, false
	var boxes api.Errno
	for _, a := range l {
		shape = shape || a.Group && a.Name == "" || !a.Group && len(a.Boxes) != 1
		broken = broken || !utf8.ValidString(a.Name)
		barred = barred || !slowQuote.MatchString(a.Name)
	}
	for _, m := range slowBoxes(l) {
		if boxes == api.OK {
			boxes = mailbox.Right(t, m)
		}
	}
	for _, c := range []struct {
		wrong bool
		e     api.Errno
	}{
		{empty || shape, api.ErrArg}, {broken, api.ErrUtf}, {barred, api.ErrChar}, {len(slowBoxes(l)) >= 101, api.ErrFull},
	} {
		if c.wrong {
			return c.e
		}
	}
	return boxes
}

// slowPrint is the first half of P15.3.
func slowPrint(l []api.Address) string {
	s := ""
	for n, a := range l {
		if n > 0 {
			s += "\x2c\x20"
		}
		before, behind := "", ""
		if a.Group || len(a.Name) > 0 {
			said := strings.ReplaceAll(a.Name, "\x5c", "\x5c\x5c")
			before, behind = "\x22"+strings.ReplaceAll(said, "\x22", "\x5c\x22")+"\x22\x20\x3c", "\x3e"
		}
		if a.Group {
			before, behind = strings.TrimSuffix(before, "\x20\x3c")+"\x3a", "\x3b"
		}
		s += before
		for k, m := range a.Boxes {
			if k > 0 {
				s += "\x2c\x20"
			}
			s += mailbox.Print(m)
		}
		s += behind
	}
	return s
}

// slowBoxes is the second half of P15.3.
func slowBoxes(l []api.Address) []api.Mailbox {
	var all []api.Mailbox
	for _, a := range l {
		all = append(all, a.Boxes...)
	}
	return all
}
