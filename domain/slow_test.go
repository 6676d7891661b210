package domain

import (
	"strings"

	"pillarbox/api"
	"pillarbox/fold"
	"pillarbox/label"
	"pillarbox/ucd"
)

// slowLabels is P9.1: what is folded is cut byte by byte, whatever the number of labels, which is asked at last.
func slowLabels(u ucd.Table, s string) ([]string, api.Errno) {
	f, is := fold.Fold(u, s)
	if !is {
		return nil, api.ErrUtf
	}
	if len(f) == 0 {
		return nil, api.ErrEmpty
	}
	all := []string{""}
	for f != "" {
		switch {
		case f[0] == 0x2e:
			all = append(all, "")
			f = f[1:]
		case strings.HasPrefix(f, "\xe3\x80\x82"):
			all = append(all, "")
			f = f[3:]
		default:
			all[len(all)-1] += f[:1]
			f = f[1:]
		}
	}
	if len(all) > 32 {
		return nil, api.ErrFull
	}
	return all, api.OK
}

// slowForms is P9.2.
func slowForms(u ucd.Table, s string) (ascii, wide string, e api.Errno) {
	all, e := slowLabels(u, s)
	if e != api.OK {
		return "", "", e
	}
	bytes := 0
	for at, one := range all {
		a, e := label.ToASCII(u, one)
		if e != api.OK {
			return "", "", e
		}
		w, e := label.ToUnicode(u, one)
		if e != api.OK {
			return "", "", e
		}
		if at > 0 {
			ascii, wide, bytes = ascii+".", wide+".", bytes+1
		}
		ascii, wide, bytes = ascii+a, wide+w, bytes+len(a)
	}
	if bytes > 253 {
		return "", "", api.ErrLong
	}
	return ascii, wide, api.OK
}

// slowSame is the first half of P9.3.
func slowSame(u ucd.Table, a, b string) bool {
	first, _, e := slowForms(u, a)
	second, _, f := slowForms(u, b)
	return e == api.OK && f == api.OK && first == second
}

// slowDown is the second half of P9.3.
func slowDown(u ucd.Table, s string) (string, api.Errno) {
	ascii, _, e := slowForms(u, s)
	if e != api.OK {
		return "", e
	}
	for _, b := range []byte(s) {
		if b >= 0x80 {
			return ascii, api.OK
		}
	}
	return s, api.OK
}
