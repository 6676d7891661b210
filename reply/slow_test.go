package reply

import (
	"math/big"
	"regexp"
	"strings"

	"pillarbox/api"
)

// What P18.1 and P18.3 say of a line, by patterns.
var (
	slowText = regexp.MustCompile(`(?s)\A[^\x00-\x1f\x7f]*\z`)
	slowLine = regexp.MustCompile(`(?s)\A([2-5][0-9][0-9])(?:([-\x20])([^\x00-\x1f\x7f]*))?\z`)
	slowKey  = regexp.MustCompile(`(?s)\A[^\x20]*`)
)

// slowRight is the first half of P18.1.
func slowRight(r api.Reply) bool {
	for _, text := range r.Lines {
		if !slowText.MatchString(text) {
			return false
		}
	}
	return slowClass(r.Code) > 0 && len(r.Lines) >= 1 && len(r.Lines) <= 32
}

// slowClass is its second half: 100 is taken away as often as it goes.
func slowClass(code int) int {
	if code < 200 || code >= 600 {
		return 0
	}
	class := 0
	for ; code >= 100; code -= 100 {
		class++
	}
	return class
}

// slowPrint is P18.2.
func slowPrint(r api.Reply) []string {
	if !slowRight(r) {
		return nil
	}
	code := big.NewInt(int64(r.Code)).String()
	said := strings.Split(code+"-"+strings.Join(r.Lines, "\n"+code+"-"), "\n")
	said[len(said)-1] = code + " " + r.Lines[len(r.Lines)-1]
	return said
}

// slowParser keeps all lines ahead as they came.
type slowParser struct{ ahead []string }

// take is P18.3.
func (p *slowParser) take(s string) (api.Reply, bool, api.Errno) {
	ahead := p.ahead
	p.ahead = nil
	m := slowLine.FindStringSubmatch(s)
	if m == nil {
		return api.Reply{}, false, api.ErrForm
	}
	r := api.Reply{}
	for _, code := range []byte(m[1]) {
		r.Code = 10*r.Code + strings.IndexByte("0123456789", code)
	}
	for _, line := range ahead {
		if !strings.HasPrefix(line, m[1]) {
			return api.Reply{}, false, api.ErrForm
		}
		r.Lines = append(r.Lines, line[4:])
	}
	if len(ahead) == 32 {
		return api.Reply{}, false, api.ErrFull
	}
	if m[2] == "-" {
		p.ahead = append(ahead, s)
		return api.Reply{}, false, api.OK
	}
	r.Lines = append(r.Lines, m[3])
	return r, true, api.OK
}

// slowKeys is P18.4.
func slowKeys(r api.Reply) []string {
	var keys []string
	for k := 1; k < len(r.Lines); k++ {
		key := []byte(slowKey.FindString(r.Lines[k]))
		for at, b := range key {
			if great := strings.IndexByte("ABCDEFGHIJKLMNOPQRSTUVWXYZ", b); great >= 0 {
				key[at] = "abcdefghijklmnopqrstuvwxyz"[great]
			}
		}
		keys = append(keys, string(key))
	}
	return keys
}
