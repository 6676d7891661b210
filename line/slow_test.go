package line

import (
	"regexp"
	"strings"

	"pillarbox/api"
)

// slowLine is all that stands up to a line's end, which is told apart.
var slowLine = regexp.MustCompile(`(?s)(.*?)\x0d\x0a`)

// slowFramer is a framer that keeps all that came, and reads it from the beginning on each time.
type slowFramer struct {
	most int
	came string
	told int
}

// feed tells the lines of all that came that were not told yet.
func (f *slowFramer) feed(b string) []api.Framed {
	f.came += b
	var lines []api.Framed
	all := slowLine.FindAllStringSubmatch(f.came, -1)
	for _, l := range all[f.told:] {
		lines = append(lines, slowFramed(l[1], f.most))
	}
	f.told = len(all)
	return lines
}

// rest is how many bytes are in none of the lines.
func (f *slowFramer) rest() int {
	return len(f.came) - len(strings.Join(slowLine.FindAllString(f.came, -1), ""))
}

// reset takes the rest out of what came.
func (f *slowFramer) reset() { f.came = f.came[:len(f.came)-f.rest()] }

// slowFramed is what is told of the line of that text.
func slowFramed(text string, most int) api.Framed {
	long := len(text) > most
	bare := strings.Count(text, "\x0d")+strings.Count(text, "\x0a") > 0
	if long || bare {
		text = ""
	}
	return api.Framed{Text: text, Long: long, Bare: bare}
}
