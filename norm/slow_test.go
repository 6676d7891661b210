package norm

import (
	"slices"

	"pillarbox/api"
	"pillarbox/ucd"
)

// slow does the three steps in other ways than the program: each as the promise's words go, however long it takes.
type slow struct {
	t     ucd.Table
	parts map[rune][]rune  // of syllables: what they are made of
	made  map[[2]rune]rune // what two make
	rows  map[rune]api.Split
}

// newSlow lays all syllables by counting their parts, and what two make by the rows of api.
func newSlow() slow {
	s := slow{ucd.New(), map[rune][]rune{}, map[[2]rune]rune{}, map[rune]api.Split{}}
	syllable := rune(0xac00)
	for one := rune(0x1100); one <= 0x1112; one++ {
		for two := rune(0x1161); two <= 0x1175; two++ {
			ofTwo := syllable
			s.parts[syllable] = []rune{one, two}
			s.made[[2]rune{one, two}] = syllable
			syllable++
			for three := rune(0x11a8); three <= 0x11c2; three++ {
				s.parts[syllable] = []rune{one, two, three}
				s.made[[2]rune{ofTwo, three}] = syllable
				syllable++
			}
		}
	}
	for _, row := range api.Splits() {
		s.rows[row.Rune] = row
		if !row.Soft && !row.Out && row.Two != 0 {
			s.made[[2]rune{row.One, row.Two}] = row.Rune
		}
	}
	for one := rune('!'); one <= '~'; one++ {
		s.rows[one+0xfee0] = api.Split{Rune: one + 0xfee0, One: one, Soft: true, Out: true}
	}
	return s
}

// split takes the first one that can be taken apart so, again and again.
func (s slow) split(l []rune, soft bool) []rune {
	l = slices.Clone(l)
	for at := 0; at < len(l); {
		row, is := s.rows[l[at]]
		switch parts := s.parts[l[at]]; {
		case parts != nil:
			l = slices.Replace(l, at, at+1, parts...)
		case is && (soft || !row.Soft) && row.Two == 0:
			l[at] = row.One
		case is && (soft || !row.Soft):
			l = slices.Replace(l, at, at+1, row.One, row.Two)
		default:
			at++
		}
	}
	return l
}

// order swaps two neighbours that stand wrong, till there are none.
func (s slow) order(l []rune) []rune {
	l = slices.Clone(l)
	for swapped := true; swapped; {
		swapped = false
		for at := 1; at < len(l); at++ {
			a, b := s.t.Class(l[at-1]), s.t.Class(l[at])
			if b > 0 && a > b {
				l[at-1], l[at] = l[at], l[at-1]
				swapped = true
			}
		}
	}
	return l
}

// join looks at each step through all that is made by then.
func (s slow) join(l []rune) []rune {
	var out []rune
	for _, r := range l {
		base := len(out) - 1
		for base >= 0 && s.t.Class(out[base]) > 0 {
			base--
		}
		free := base >= 0
		for _, m := range out[base+1:] {
			free = free && s.t.Class(m) < s.t.Class(r)
		}
		if made := rune(0); free {
			made = s.made[[2]rune{out[base], r}]
			if made != 0 {
				out[base] = made
				continue
			}
		}
		out = append(out, r)
	}
	return out
}

// forms are NFD, NFC, NFKD and NFKC of l.
func (s slow) forms(l []rune) [4]string {
	d, k := s.order(s.split(l, false)), s.order(s.split(l, true))
	return [4]string{string(d), string(s.join(d)), string(k), string(s.join(k))}
}
