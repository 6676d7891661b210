package path

import (
	"regexp"

	"pillarbox/api"
	"pillarbox/lex"
	"pillarbox/mailbox"
	"pillarbox/ucd"
)

// slowNames are the letters of the postmaster's Local, small and great.
var slowNames = regexp.MustCompile(`\A[Pp][Oo][Ss][Tt][Mm][Aa][Ss][Tt][Ee][Rr]\z`)

// slowShape is what P14.2 says of the tokens, a letter a token: an l is a literal, and so on as in slowLetters.
var slowShape = regexp.MustCompile(`\A<[^wn]*>\z`)

// slowLetters are the letters of tokens: w and n do not count, q is a quote, a an atom, l a literal, a sign is itself.
func slowLetters(l []api.Token) string {
	letters := ""
	for _, k := range l {
		if k.Kind == api.TokSign {
			letters += k.Text
			continue
		}
		letters += map[int]string{api.TokWhite: "w", api.TokNote: "n", api.TokQuote: "q", api.TokAtom: "a", api.TokLiteral: "l"}[k.Kind]
	}
	return letters
}

// slowPostmaster is the chapter's word.
func slowPostmaster(p api.Path) bool {
	return !p.Null && len(p.Box.Domain) == 0 && slowNames.MatchString(p.Box.Local)
}

// slowRight is P14.1.
func slowRight(t ucd.Table, p api.Path) api.Errno {
	if p.Null {
		if len(p.Box.Local)+len(p.Box.Domain) > 0 {
			return api.ErrArg
		}
		return api.OK
	}
	if slowPostmaster(p) {
		return api.OK
	}
	return mailbox.Right(t, p.Box)
}

// slowParse is P14.2. What stands between the ends is read as a text of its own: it has the same tokens there.
func slowParse(t ucd.Table, s string) (api.Path, api.Errno) {
	l, _, e := lex.Lex(s)
	if e != api.OK {
		return api.Path{}, e
	}
	letters := slowLetters(l)
	if !slowShape.MatchString(letters) {
		return api.Path{}, api.ErrForm
	}
	between := s[1 : len(s)-1]
	if between == "" {
		return api.Path{Null: true}, api.OK
	}
	if letters == "<a>" && slowNames.MatchString(between) {
		return api.Path{Box: api.Mailbox{Local: between}}, api.OK
	}
	m, e := mailbox.Parse(t, between)
	return api.Path{Box: m}, e
}

// slowPrint is P14.3.
func slowPrint(p api.Path) string {
	if p.Null {
		return "\x3c\x3e"
	}
	if slowPostmaster(p) {
		return "\x3c" + p.Box.Local + "\x3e"
	}
	return "\x3c" + mailbox.Print(p.Box) + "\x3e"
}

// slowCanonical is the first third of P14.4.
func slowCanonical(t ucd.Table, p api.Path) api.Path {
	c := api.Path{Null: p.Null}
	if slowPostmaster(p) {
		c.Box.Local = "post" + "master"
	} else if !p.Null {
		c.Box = mailbox.Canonical(t, p.Box)
	}
	return c
}

// slowSame is the second third of P14.4.
func slowSame(t ucd.Table, a, b api.Path) bool {
	if slowRight(t, a) != api.OK || slowRight(t, b) != api.OK {
		return false
	}
	return slowCanonical(t, a) == slowCanonical(t, b)
}

// slowDown is the last third of P14.4.
func slowDown(t ucd.Table, p api.Path) (api.Path, api.Errno) {
	if p.Null || slowPostmaster(p) {
		return p, api.OK
	}
	m, e := mailbox.Down(t, p.Box)
	if e != api.OK {
		return api.Path{}, e
	}
	return api.Path{Box: m}, api.OK
}
