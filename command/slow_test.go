package command

import (
	"math/big"
	"regexp"
	"strconv"
	"strings"

	"pillarbox/api"
	"pillarbox/path"
	"pillarbox/ucd"
)

// slowAny is a pattern of s, be its letters great or small. (A pattern's own way takes more than ASCII for letters of ASCII.)
func slowAny(s string) string {
	pattern := ""
	for _, r := range s {
		pattern += "[" + string(r) + strings.ToLower(string(r)) + "]"
	}
	return pattern
}

// slowVerbs are the words of verbs, slowLines the patterns of lines that begin with them.
var (
	slowVerbs = []string{"EHLO", "HELO", "MAIL", "RCPT", "DATA", "RSET", "NOOP", "QUIT"}
	slowLines = slowBegun(slowVerbs)
)

// slowBegun are the patterns of lines that begin with these words.
func slowBegun(words []string) []*regexp.Regexp {
	var l []*regexp.Regexp
	for _, word := range words {
		l = append(l, regexp.MustCompile(`(?s)\A`+slowAny(word)+`(?:\x20.*)?\z`))
	}
	return l
}

// What else P17.1 and P17.2 say, one pattern each.
var (
	slowName  = regexp.MustCompile(`\A[!-~]{1,255}\z`)
	slowPath  = `((?:[^>"\[]|"(?:[^"\\]|\\.)*"|\[[^\]]*\])*>)`
	slowMail  = regexp.MustCompile(`(?s)\A\x20` + slowAny("FROM") + `:` + slowPath + `(.*)\z`)
	slowRcpt  = regexp.MustCompile(`(?s)\A\x20` + slowAny("TO") + `:` + slowPath + `(.*)\z`)
	slowSize  = regexp.MustCompile(`\A` + slowAny("SIZE") + `=([0-9]{1,8})\z`)
	slowBody  = regexp.MustCompile(`\A` + slowAny("BODY") + `=(?:(8` + slowAny("BITMIME") + `)|7` + slowAny("BIT") + `)\z`)
	slowUtf8  = regexp.MustCompile(`\A` + slowAny("SMTPUTF") + `8\z`)
	slowKeys  = regexp.MustCompile(`\A(?:(` + slowAny("SIZE") + `)|(` + slowAny("BODY") + `)|(` + slowAny("SMTPUTF") + `8))(?:=|\z)`)
	slowEight = regexp.MustCompile(`[^\x00-\x7f]`)
)

// slowRight is the second half of P17.1.
func slowRight(t ucd.Table, c api.Command) bool {
	// What a verb has is asked, and taken away; nothing may be left then.
	rest, fine := c, true
	switch c.Verb {
	case 0, 1:
		fine, rest.Name = slowName.MatchString(c.Name), ""
	case 2:
		fine = path.Right(t, c.Path) == api.OK && (c.Size == -1 || c.Size>>24 == 0 || c.Size == 16777216)
		rest = api.Command{Verb: 2, Name: c.Name, Size: -1}
	case 3:
		fine, rest.Path = path.Right(t, c.Path) == api.OK && c.Path != api.Path{Null: true}, api.Path{}
	}
	return fine && c.Verb >= 0 && c.Verb <= 7 && rest == api.Command{Verb: c.Verb, Size: -1}
}

// slowParse is P17.2.
func slowParse(t ucd.Table, s string) (api.Command, int) {
	c := api.Command{Size: -1}
	for verb, line := range slowLines {
		if len(s) > 510 || !line.MatchString(s) {
			continue
		}
		c.Verb = verb
		if code := slowRest(t, &c, s[4:]); code != 0 {
			return api.Command{Size: -1}, code
		}
		return c, 0
	}
	return c, 500
}

// slowRest reads what stands behind the word.
func slowRest(t ucd.Table, c *api.Command, rest string) int {
	switch {
	case c.Verb < 2 && (rest == "" || !slowName.MatchString(rest[1:])):
		return 501
	case c.Verb < 2:
		c.Name = rest[1:]
	case c.Verb == 2:
		return slowReadMail(t, c, rest)
	case c.Verb == 3:
		m := slowRcpt.FindStringSubmatch(rest)
		if m == nil {
			return 501
		}
		p, e := path.Parse(t, m[1])
		if e != api.OK || p.Null {
			return 553
		}
		if m[2] != "" {
			return 555
		}
		c.Path = p
	case c.Verb != 6 && rest != "":
		return 501
	}
	return 0
}

// slowReadMail reads what stands behind the word MAIL.
func slowReadMail(t ucd.Table, c *api.Command, rest string) int {
	m := slowMail.FindStringSubmatch(rest)
	if m == nil {
		return 501
	}
	p, e := path.Parse(t, m[1])
	if e != api.OK {
		return 553
	}
	c.Path = p
	if m[2] != "" && m[2][0] != 0x20 {
		return 501
	}
	var seen [4]bool
	for _, one := range strings.Split(m[2], "\x20")[1:] {
		if code := slowParam(c, one, &seen); code != 0 {
			return code
		}
	}
	if slowEight.MatchString(m[1]) && !c.Utf8 {
		return 553
	}
	return 0
}

// slowParam reads one parameter; seen are the keys of those ahead.
func slowParam(c *api.Command, one string, seen *[4]bool) int {
	keys := slowKeys.FindStringSubmatch(one)
	if keys == nil {
		return 555
	}
	for at := 1; at < 4; at++ {
		if keys[at] != "" && seen[at] {
			return 501
		}
		seen[at] = seen[at] || keys[at] != ""
	}
	size, body := slowSize.FindStringSubmatch(one), slowBody.FindStringSubmatch(one)
	switch {
	case size != nil:
		n, _ := new(big.Int).SetString(size[1], 10)
		if n.Cmp(big.NewInt(16777216)) > 0 {
			return 552
		}
		c.Size = int(n.Int64())
	case body != nil:
		c.Eight = body[1] != ""
	case slowUtf8.MatchString(one):
		c.Utf8 = true
	default:
		return 501
	}
	return 0
}

// slowPrint is P17.3.
func slowPrint(c api.Command) string {
	if c.Verb < 0 || c.Verb > 7 {
		return ""
	}
	s := []string{slowVerbs[c.Verb]}
	switch c.Verb {
	case 0, 1:
		s = append(s, c.Name)
	case 2:
		s = append(s, "FROM:"+path.Print(c.Path))
		if size := strconv.Itoa(c.Size); size != "-1" {
			s = append(s, "SIZE="+size)
		}
		if c.Eight {
			s = append(s, "BODY=8BITMIME")
		}
		if c.Utf8 {
			s = append(s, "SMTPUTF8")
		}
	case 3:
		s = append(s, "TO:"+path.Print(c.Path))
	}
	return strings.Join(s, "\x20")
}
