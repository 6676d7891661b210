package puny

import (
	"slices"
	"strings"
)

// allDigits has the digit of each number at its place.
const allDigits = "abcdefghijklmnopqrstuvwxyz0123456789"

// slowThreshold is the threshold of k by a bias.
func slowThreshold(k, bias int) int {
	t := k - bias
	if t < 1 {
		t = 1
	}
	if t > 26 {
		t = 26
	}
	return t
}

// slowDigits is q in digits from k on: the first digit, and what is left of q behind it.
func slowDigits(q, k, bias int) string {
	t := slowThreshold(k, bias)
	if q < t {
		return allDigits[q : q+1]
	}
	one := t + (q-t)%(36-t)
	return allDigits[one:one+1] + slowDigits((q-t)/(36-t), k+36, bias)
}

// slowAdapt follows the words of P5.1 step by step.
func slowAdapt(delta, count int, first bool) int {
	by := 2
	if first {
		by = 700
	}
	d := delta / by
	return slowBias(d+d/count, 0)
}

func slowBias(d, k int) int {
	if d > 455 {
		return slowBias(d/35, k+36)
	}
	return k + 36*d/(d+38)
}

// walker goes through all places at which a character may be laid, in order: each place of the row for the first character, then for the next.
type walker struct {
	l     []rune
	n     rune
	at    int
	bias  int
	first bool
}

func newWalker(plain []rune) *walker {
	return &walker{l: slices.Clone(plain), n: 0x80, bias: 72, first: true}
}

// step goes on by one place.
func (w *walker) step() {
	if w.at++; w.at > len(w.l) {
		w.at, w.n = 0, w.n+1
	}
}

// steps goes on by many places, many rounds at once; it stays behind the last character.
func (w *walker) steps(number int) {
	for _, rounds := range []int{100000, 1000, 1} {
		for number >= rounds*(len(w.l)+1) && w.n <= 0x10ffff {
			number -= rounds * (len(w.l) + 1)
			w.n += rune(rounds)
		}
	}
	for ; number > 0 && w.n <= 0x10ffff; number-- {
		w.step()
	}
}

// lay lays the character at the place, number places behind the one before.
func (w *walker) lay(number int) {
	w.bias = slowAdapt(number, len(w.l)+1, w.first)
	w.first = false
	w.l = slices.Insert(w.l, w.at, w.n)
	w.at++
}

// slowEncode counts how many places lie between those of the characters of l, which it lays from the least to the greatest. It is for characters alone, few and not great ones.
func slowEncode(l []rune) string {
	var plain, wide []rune
	var where []int // the places in l of wide
	for at, r := range l {
		if r < 0x80 {
			plain = append(plain, r)
			continue
		}
		k := 0
		for k < len(wide) && wide[k] <= r {
			k++
		}
		wide, where = slices.Insert(wide, k, r), slices.Insert(where, k, at)
	}
	out := string(plain)
	if len(plain) > 0 {
		out += "-"
	}
	w := newWalker(plain)
	for k, r := range wide {
		ahead := 0 // how many of l ahead of this one are laid
		for at, other := range l[:where[k]] {
			if other < 0x80 || slices.Contains(where[:k], at) {
				ahead++
			}
		}
		number := 0
		for w.n != r || w.at != ahead {
			w.step()
			number++
		}
		out += slowDigits(number, 36, w.bias)
		w.lay(number)
	}
	return out
}

// slowRead reads a number in digits from k on: a digit that is not the last one is what is over of the number behind it.
func slowRead(s string, k, bias int) (number int, rest string, is bool) {
	if s == "" {
		return 0, "", false
	}
	d := strings.IndexByte(allDigits, strings.ToLower(s[:1])[0])
	if d < 0 || s[0] >= 0x80 {
		return 0, "", false
	}
	t := slowThreshold(k, bias)
	if d < t {
		return d, s[1:], true
	}
	more, rest, is := slowRead(s[1:], k+36, bias)
	return d + (36-t)*more, rest, is
}

// slowDecode walks to each of the characters. It is for strings whose numbers are not near the limit.
func slowDecode(s string) ([]rune, bool) {
	var plain []rune
	if cut := strings.LastIndex(s, "-"); cut > 0 {
		for _, c := range []byte(s[:cut]) {
			if c >= 0x80 {
				return nil, false
			}
			plain = append(plain, rune(c))
		}
		s = s[cut+1:]
	}
	w := newWalker(plain)
	for s != "" {
		number, rest, is := slowRead(s, 36, w.bias)
		if !is {
			return nil, false
		}
		w.steps(number)
		if w.n > 0x10ffff || 0xd800 <= w.n && w.n <= 0xdfff {
			return nil, false
		}
		w.lay(number)
		s = rest
	}
	return w.l, true
}
