package lex

import (
	"regexp"
	"strings"
	"unicode/utf8"

	"pillarbox/api"
)

// What the chapter's words say of bytes, written as patterns of characters: all bytes of what is no ASCII are from 80 on.
const (
	slowWide    = `[^\x00-\x7f]`
	slowAtom    = "(?:[A-Za-z0-9!#$%&'*+\\-/=?^_`{|}~]|" + slowWide + ")"
	slowPrinted = `(?:[!-~]|` + slowWide + `)`
	slowStands  = `(?:[\t ]|` + slowPrinted + `)`
	slowEscape  = `\\` + slowStands
)

var (
	slowPlainText = regexp.MustCompile(`\A` + slowAtom + `+\z`)
	slowWordsText = regexp.MustCompile(`\A` + slowAtom + `+(?:\.` + slowAtom + `+)*\z`)
	slowAtoms     = regexp.MustCompile(`\A` + slowAtom + `+`)
	slowSign      = regexp.MustCompile(`\A[<>:;@,.]`)
	slowWhite     = regexp.MustCompile(`\A(?:[\t ]|\r\n[\t ])+`)
	slowInQuote   = regexp.MustCompile(`\A(?:[\t !#-\[\]-~]|` + slowWide + `|` + slowEscape + `)*`)
	slowInLiteral = regexp.MustCompile(`\A(?:[!-Z^-~]|` + slowWide + `)*`)
	slowInNote    = regexp.MustCompile(`\A(?:[\t !-'*-\[\]-~]|` + slowWide + `|` + slowEscape + `)*`)
	slowEscaped   = regexp.MustCompile(`\\(` + slowStands + `)`)
)

// slowWrong is the first place where s is no characters, -1 if it is all.
func slowWrong(s string) int {
	for at := 0; at < len(s); {
		_, n := utf8.DecodeRuneInString(s[at:])
		if !utf8.ValidString(s[at : at+n]) {
			return at
		}
		at += n
	}
	return -1
}

// slowLex is P12.2.
func slowLex(s string) ([]api.Token, int, api.Errno) {
	if len(s) > 2000 {
		return nil, 0, api.ErrLong
	}
	if at := slowWrong(s); at >= 0 {
		return nil, at, api.ErrUtf
	}
	var l []api.Token
	at := 0
	for at < len(s) {
		kind, end, wrong, e := slowToken(s, at)
		if e != api.OK {
			return nil, wrong, e
		}
		text := s[at:end]
		switch kind {
		case api.TokQuote:
			text = slowEscaped.ReplaceAllString(text[1:len(text)-1], "$1")
		case api.TokLiteral, api.TokNote:
			text = text[1 : len(text)-1]
		}
		l = append(l, api.Token{Kind: kind, Text: text, At: at})
		at = end
	}
	return l, 0, api.OK
}

// slowToken is the kind of the token at a place, and the place behind it; or the place that is wrong, and the error.
func slowToken(s string, at int) (kind, end, wrong int, e api.Errno) {
	rest := s[at:]
	if n := len(slowAtoms.FindString(rest)); n > 0 {
		return api.TokAtom, at + n, 0, api.OK
	}
	if n := len(slowSign.FindString(rest)); n > 0 {
		return api.TokSign, at + n, 0, api.OK
	}
	if n := len(slowWhite.FindString(rest)); n > 0 {
		return api.TokWhite, at + n, 0, api.OK
	}
	switch rest[0] {
	case '"':
		end, wrong, e = slowClosed(s, at, at+1+len(slowInQuote.FindString(rest[1:])), '"')
		return api.TokQuote, end, wrong, e
	case '[':
		// A \ may not stand in a literal at all.
		end = at + 1 + len(slowInLiteral.FindString(rest[1:]))
		if end < len(s) && s[end] == '\\' {
			return 0, 0, end, api.ErrForm
		}
		end, wrong, e = slowClosed(s, at, end, ']')
		return api.TokLiteral, end, wrong, e
	case '(':
		end, wrong, e = slowNote(s, at, 1)
		if wrong < 0 {
			wrong = at
		}
		return api.TokNote, end, wrong, e
	}
	return 0, 0, at, api.ErrForm
}

// slowClosed tells of what goes from one place to another whether the closing end stands there.
func slowClosed(s string, at, end int, closing byte) (int, int, api.Errno) {
	switch {
	case end == len(s):
		return 0, at, api.ErrForm
	case s[end] == closing:
		return end + 1, 0, api.OK
	case s[end] == '\\' && end+1 == len(s):
		return 0, at, api.ErrForm
	case s[end] == '\\':
		return 0, end + 1, api.ErrForm
	}
	return 0, end, api.ErrForm
}

// slowNote reads a note, and each one within it by a call of its own; what has no closing end is wrong at -1.
func slowNote(s string, at, deep int) (int, int, api.Errno) {
	if deep > 32 {
		return 0, at, api.ErrDeep
	}
	end := at + 1
	for {
		end += len(slowInNote.FindString(s[end:]))
		if end == len(s) || s[end] != '(' {
			return slowClosed(s, -1, end, ')')
		}
		behind, wrong, e := slowNote(s, end, deep+1)
		if e != api.OK {
			return 0, wrong, e
		}
		end = behind
	}
}

// slowSource is P12.3.
func slowSource(k api.Token) string {
	switch k.Kind {
	case api.TokQuote:
		var said strings.Builder
		for _, b := range []byte(k.Text) {
			if b == 0x22 || b == 0x5c {
				said.WriteByte(0x5c)
			}
			said.WriteByte(b)
		}
		return "\x22" + said.String() + "\x22"
	case api.TokNote:
		return "\x28" + k.Text + "\x29"
	case api.TokLiteral:
		return "\x5b" + k.Text + "\x5d"
	}
	return k.Text
}
