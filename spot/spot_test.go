package spot

import (
	"math"
	"strings"
	"testing"
)

// samples are texts, and the spots of all their places.
var samples = map[string][]complex128{
	// The empty text, one byte, many.
	"":           {0},
	"a":          {0, 1i},
	"\x00":       {0, 1i},
	"abc":        {0, 1i, 2i, 3i},
	"a b:c;d, e": {0, 1i, 2i, 3i, 4i, 5i, 6i, 7i, 8i, 9i, 10i},
	// One line's end: alone, first, last, between.
	"\r\n":      {0, 1i, 1},
	"\r\na":     {0, 1i, 1, 1 + 1i},
	"a\r\n":     {0, 1i, 2i, 1},
	"a\r\nb":    {0, 1i, 2i, 1, 1 + 1i},
	"ab\r\nc":   {0, 1i, 2i, 3i, 1, 1 + 1i},
	"ab\r\ncde": {0, 1i, 2i, 3i, 1, 1 + 1i, 1 + 2i, 1 + 3i},
	// Two, and more, one behind the other and not.
	"\r\n\r\n":             {0, 1i, 1, 1 + 1i, 2},
	"\r\n\r\n\r\n":         {0, 1i, 1, 1 + 1i, 2, 2 + 1i, 3},
	"a\r\n\r\nb":           {0, 1i, 2i, 1, 1 + 1i, 2, 2 + 1i},
	"a\r\nbc\r\n":          {0, 1i, 2i, 1, 1 + 1i, 1 + 2i, 1 + 3i, 2},
	"\r\na\r\n\r\nb\r\ncd": {0, 1i, 1, 1 + 1i, 1 + 2i, 2, 2 + 1i, 3, 3 + 1i, 3 + 2i, 4, 4 + 1i, 4 + 2i},
	// Half of a line's end, and halves that stand the wrong way round.
	"\r":         {0, 1i},
	"\n":         {0, 1i},
	"a\rb":       {0, 1i, 2i, 3i},
	"a\nb":       {0, 1i, 2i, 3i},
	"\n\r":       {0, 1i, 2i},
	"\r\r":       {0, 1i, 2i},
	"\n\n":       {0, 1i, 2i},
	"\ra\n":      {0, 1i, 2i, 3i},
	"\r\r\n":     {0, 1i, 2i, 1},
	"a\r\r\nb":   {0, 1i, 2i, 3i, 1, 1 + 1i},
	"\r\r\r\n":   {0, 1i, 2i, 3i, 1},
	"\r\n\n":     {0, 1i, 1, 1 + 1i},
	"\r\n\r":     {0, 1i, 1, 1 + 1i},
	"\n\r\n\r":   {0, 1i, 2i, 1, 1 + 1i},
	"\r\n\n\r\n": {0, 1i, 1, 1 + 1i, 1 + 2i, 2},
	"a\r\nb\rc":  {0, 1i, 2i, 1, 1 + 1i, 1 + 2i, 1 + 3i},
	// Other blanks and ends of lines of others are bytes like any other.
	"\t\v\f ": {0, 1i, 2i, 3i, 4i},
	// Bytes of 80 or more: of characters each one counts, and of what is none.
	"\u00e4":                 {0, 1i, 2i},
	"\u4e00\r\n\u00e4":       {0, 1i, 2i, 3i, 4i, 1, 1 + 1i, 1 + 2i},
	"\U00010400b":            {0, 1i, 2i, 3i, 4i, 5i},
	"\x80\xff\r\n\xc3":       {0, 1i, 2i, 3i, 1, 1 + 1i},
	"\x8d\x8a":               {0, 1i, 2i},
	"\u0085\u2028":           {0, 1i, 2i, 3i, 4i, 5i},
	"\r\xff\n":               {0, 1i, 2i, 3i},
	"\u0d0a\r\n":             {0, 1i, 2i, 3i, 4i, 1},
	"\xff\r\n\r\n\xed\xa0\r": {0, 1i, 2i, 1, 1 + 1i, 2, 2 + 1i, 2 + 2i, 2 + 3i},
}

// parts are parts of spots, and the numbers that they are taken for.
var parts = []struct {
	part   float64
	number int
}{
	// Whole ones, up to the last.
	{0, 0}, {1, 1}, {2, 2}, {99, 99}, {1 << 31, 1 << 31}, {1 << 32, 1 << 32}, {1<<40 - 1, 1<<40 - 1}, {1 << 40, 1 << 40},
	// Those that are not whole are rounded down.
	{0.5, 0}, {0.999999, 0}, {math.SmallestNonzeroFloat64, 0}, {1.5, 1}, {2.9, 2}, {math.Nextafter(3, 0), 2}, {math.Nextafter(3, 4), 3}, {1<<40 - 0.5, 1<<40 - 1}, {1<<40 - 1.5, 1<<40 - 2},
	// More than the last.
	{1<<40 + 0.5, 1 << 40}, {1<<40 + 1, 1 << 40}, {1 << 41, 1 << 40}, {1 << 53, 1 << 40}, {1 << 63, 1 << 40}, {1 << 64, 1 << 40}, {math.MaxFloat64, 1 << 40}, {math.Inf(1), 1 << 40},
	// Less than 0.
	{math.Copysign(0, -1), 0}, {-math.SmallestNonzeroFloat64, 0}, {-0.5, 0}, {-1, 0}, {-1.5, 0}, {-(1 << 40), 0}, {-(1 << 63), 0}, {-math.MaxFloat64, 0}, {math.Inf(-1), 0},
	// No number.
	{math.NaN(), 0},
}

// spotOf is the spot of whole parts.
func spotOf(line, column int) complex128 { return complex(float64(line), float64(column)) }

func wantOf(t *testing.T, s string, k int, want complex128) {
	t.Helper()
	if got := Of(s, k); got != want {
		t.Errorf("Of %.99q, %d: got %v, want %v", s, k, got, want)
	}
}

func wantStep(t *testing.T, c complex128, s string, want complex128) {
	t.Helper()
	if got := Step(c, s); got != want {
		t.Errorf("Step of %v, %.99q: got %v, want %v", c, s, got, want)
	}
}

func wantPlace(t *testing.T, s string, c complex128, want int, is bool) {
	t.Helper()
	if got, ok := Place(s, c); got != want || ok != is {
		t.Errorf("Place of %.99q, %v: got %d, %v, want %d, %v", s, c, got, ok, want, is)
	}
}

func wantText(t *testing.T, c complex128, want string) {
	t.Helper()
	if got := Text(c); got != want {
		t.Errorf("Text of %v: got %q, want %q", c, got, want)
	}
}

// eachText hands over s, and s with all texts of up to n bytes behind it, of bytes of which all that can stand around a line's end is made.
func eachText(s string, n int, take func(string)) {
	take(s)
	if n == 0 {
		return
	}
	for _, p := range []string{"a", "\r", "\n", "\xff"} {
		eachText(s+p, n-1, take)
	}
}

// P11.1: from nowhere on, a text ends at the spot of its last place.
func TestStep(t *testing.T) {
	for s, spots := range samples {
		wantStep(t, 0, s, spots[len(s)])
	}
}

// P11.1: a line's end takes the columns back that were there ahead of s too; without one they stay.
func TestStepFromElsewhere(t *testing.T) {
	for _, c := range []struct {
		from complex128
		s    string
		want complex128
	}{
		{7i, "", 7i}, {7i, "a", 8i}, {7i, "abc", 10i}, {7i, "\r\n", 1}, {7i, "a\r\nb", 1 + 1i}, {7i, "\r", 8i}, {7i, "\n", 8i}, {7i, "\n\r", 9i}, {7i, "\u00e4\xff", 10i},
		{5, "", 5}, {5, "a", 5 + 1i}, {5, "\r\n", 6}, {5, "\r\n\r\n", 7}, {5, "a\r\nbc", 6 + 2i}, {5, "\r\r\n", 6}, {5, "\n", 5 + 1i},
		{5 + 7i, "", 5 + 7i}, {5 + 7i, "ab", 5 + 9i}, {5 + 7i, "\r\n", 6}, {5 + 7i, "\r\na", 6 + 1i}, {5 + 7i, "a\r\n", 6}, {5 + 7i, "a\r\n\r\nb\r\nc", 8 + 1i}, {5 + 7i, "a\r\n\r", 6 + 1i},
	} {
		wantStep(t, c.from, c.s, c.want)
	}
}

// P11.1: both parts are taken as numbers, each for itself; what is stepped behind them is not.
func TestStepOfParts(t *testing.T) {
	for _, line := range parts {
		for _, column := range parts {
			c := complex(line.part, column.part)
			wantStep(t, c, "", spotOf(line.number, column.number))
			wantStep(t, c, "a", spotOf(line.number, column.number+1))
			wantStep(t, c, "abc", spotOf(line.number, column.number+3))
			wantStep(t, c, "\r\n", spotOf(line.number+1, 0))
			wantStep(t, c, "a\r\n\r\nbc", spotOf(line.number+2, 2))
			wantStep(t, c, "\n\r", spotOf(line.number, column.number+2))
		}
	}
}

// P11.1: a text in two pieces goes as far as in one, if it is not cut within a line's end, whose halves are but bytes then.
func TestStepOfPieces(t *testing.T) {
	eachText("", 6, func(s string) {
		for k := range len(s) + 1 {
			got := Step(Step(2+3i, s[:k]), s[k:])
			if cut := strings.HasSuffix(s[:k], "\r") && strings.HasPrefix(s[k:], "\n"); cut != (got != Step(2+3i, s)) {
				t.Errorf("Step by %q, %q: got %v", s[:k], s[k:], got)
			}
		}
	})
}

// P11.2: each place of ordinary texts and of the edges; and what is ahead of the first one, and behind the last.
func TestOf(t *testing.T) {
	for s, spots := range samples {
		if len(spots) != len(s)+1 {
			t.Fatalf("sample %q has %d spots", s, len(spots))
		}
		for k, want := range spots {
			wantOf(t, s, k, want)
		}
		for _, k := range []int{-1, -2, -len(s), -len(s) - 1, -1 << 31, -1 << 32, math.MinInt + 1, math.MinInt} {
			wantOf(t, s, k, 0)
		}
		for _, k := range []int{len(s) + 1, len(s) + 2, 2*len(s) + 99, 1 << 31, 1 << 32, math.MaxInt - 1, math.MaxInt} {
			wantOf(t, s, k, spots[len(s)])
		}
	}
}

// P11.2: a place within a line's end is on the line that ends.
func TestOfWithin(t *testing.T) {
	wantOf(t, "ab\r\nc", 3, 3i)
	wantOf(t, "\r\n", 1, 1i)
	wantOf(t, "a\r\nbc\r\nd", 6, 1+3i)
	wantOf(t, "\r\n\r\n", 3, 1+1i)
	wantOf(t, "\r\r\n", 2, 2i)
}

// P11.2: line's ends are counted, not their halves.
func TestLines(t *testing.T) {
	for s, want := range map[string]int{
		"": 0, "a": 0, "abc": 0, "\r": 0, "\n": 0, "\n\r": 0, "\r\r": 0, "\n\n": 0, "a\rb\nc": 0, "\ra\n": 0, "\x8d\x8a": 0, "\u0085\u2028": 0,
		"\r\n": 1, "a\r\n": 1, "\r\na": 1, "a\r\nb": 1, "\r\r\n": 1, "\r\n\n": 1, "\r\n\r": 1, "\n\r\n\r": 1, "\xff\r\n\xff": 1,
		"\r\n\r\n": 2, "a\r\nb\r\n": 2, "\r\na\r\n": 2, "\r\r\n\n\r\n\r": 2,
		strings.Repeat("\r\n", 5000): 5000, strings.Repeat("ab\r\n", 300) + "\r": 300, strings.Repeat("\n\r", 9): 8,
	} {
		if got := Lines(s); got != want {
			t.Errorf("Lines of %.99q: got %d, want %d", s, got, want)
		}
	}
	for s, spots := range samples {
		if got := Lines(s); got != int(real(spots[len(s)])) {
			t.Errorf("Lines of %q: got %d", s, got)
		}
	}
}

// P11.3: each spot of a text has its place.
func TestPlace(t *testing.T) {
	for s, spots := range samples {
		for k, c := range spots {
			wantPlace(t, s, c, k, true)
		}
	}
}

// P11.3: a line too many, a column too many on the last line and on others; what is ahead of all.
func TestPlaceOfNone(t *testing.T) {
	for s, spots := range samples {
		last := spots[len(s)]
		wantPlace(t, s, last+1i, 0, false)
		wantPlace(t, s, last+1, 0, false)
		wantPlace(t, s, complex(real(last)+1, 0), 0, false)
		wantPlace(t, s, complex(real(last)+2, 0), 0, false)
		wantPlace(t, s, complex(0, float64(len(s)+1)), 0, false)
		wantPlace(t, s, -1, 0, false)
		wantPlace(t, s, -1i, 0, false)
		wantPlace(t, s, 1-1i, 0, false)
	}
	for s, none := range map[string][]complex128{
		"":           {1, 1i, 1 + 1i},
		"ab\r\nc":    {4i, 5i, 1 + 2i, 2, 2 + 1i},
		"\r\n":       {2i, 1 + 1i, 2},
		"\r\n\r\na":  {2i, 1 + 2i, 2 + 2i, 3, 3i},
		"a\r\nbcd":   {3i, 1 + 4i, 2},
		"a\r\r\nb\n": {4i, 1 + 3i, 2},
		"abc\r\nd":   {5i, 1 + 2i, 1 + 3i},
	} {
		for _, c := range none {
			wantPlace(t, s, c, 0, false)
		}
	}
}

// P11.3: parts are held against the spots as they are: one that is only taken for a number that a text has is not there.
func TestPlaceOfParts(t *testing.T) {
	const s = "a\r\nb"
	for _, p := range parts {
		for _, line := range []float64{0, 1} {
			k, is := slowPlace(s, complex(line, p.part))
			wantPlace(t, s, complex(line, p.part), k, is)
			k, is = slowPlace(s, complex(p.part, line))
			wantPlace(t, s, complex(p.part, line), k, is)
		}
	}
	for _, odd := range []float64{0.5, 1.5, -0.5, math.Nextafter(1, 0), math.Nextafter(1, 2), -1, math.NaN(), math.Inf(1), math.Inf(-1), 1 << 40, 1<<40 + 1} {
		for _, c := range []complex128{complex(odd, 0), complex(0, odd), complex(odd, 1), complex(1, odd), complex(odd, odd)} {
			wantPlace(t, s, c, 0, false)
			wantPlace(t, "", c, 0, false)
		}
	}
	wantPlace(t, s, complex(math.Copysign(0, -1), 1), 1, true)
}

// P11.3: the line ahead of the column, both one more, each taken as a number for itself.
func TestText(t *testing.T) {
	for c, want := range map[complex128]string{
		0: "1:1", 1: "2:1", 1i: "1:2", 2 + 3i: "3:4", 9 + 99i: "10:100", 41: "42:1",
		2.9 + 0.5i: "3:1", -1 - 1i: "1:1", -1 + 2.9i: "1:3", 2 - 7i: "3:1",
		1<<40 - 1: "1099511627776:1", 1 << 40: "1099511627777:1", 1 << 50: "1099511627777:1",
		complex(0, 1<<40): "1:1099511627777", complex(0, 1<<40+1): "1:1099511627777", complex(1<<40-0.5, 1<<63): "1099511627776:1099511627777",
	} {
		wantText(t, c, want)
	}
	inf, none := math.Inf(1), math.NaN()
	wantText(t, complex(inf, -inf), "1099511627777:1")
	wantText(t, complex(-inf, inf), "1:1099511627777")
	wantText(t, complex(none, 2), "1:3")
	wantText(t, complex(2, none), "3:1")
	wantText(t, complex(none, none), "1:1")
	wantText(t, complex(none, inf), "1:1099511627777")
}

// P11.3: all pairs of parts.
func TestTextOfParts(t *testing.T) {
	for _, line := range parts {
		for _, column := range parts {
			if line.number != slowNumber(line.part) {
				t.Errorf("%v: is %d, not %d", line.part, slowNumber(line.part), line.number)
			}
			wantText(t, complex(line.part, column.part), slowText(complex(line.part, column.part)))
		}
	}
}

// P11.1 to P11.3: all short texts, at all places and all spots about them, against the words taken slowly.
func TestShortTexts(t *testing.T) {
	from := []complex128{0, 3i, 2, 2 + 3i, complex(-0.5, 1.5), complex(math.NaN(), math.Inf(1)), complex(1<<41, -9)}
	eachText("", 7, func(s string) {
		for k := -1; k <= len(s)+1; k++ {
			wantOf(t, s, k, slowOf(s, k))
		}
		for _, c := range from {
			wantStep(t, c, s, slowStep(c, s))
		}
		if got := Lines(s); got != len(slowEnds(s)) {
			t.Errorf("Lines of %q: got %d", s, got)
		}
	})
	eachText("", 5, func(s string) {
		for line := -1; line <= len(s)/2+1; line++ {
			for column := -1; column <= len(s)+1; column++ {
				c := spotOf(line, column)
				k, is := slowPlace(s, c)
				wantPlace(t, s, c, k, is)
				wantPlace(t, s, c+0.5, 0, false)
				wantPlace(t, s, c+0.5i, 0, false)
			}
		}
	})
}

// isBehind tells whether c has a greater line than d, or the same one, and a greater column.
func isBehind(c, d complex128) bool {
	return real(c) > real(d) || real(c) == real(d) && imag(c) > imag(d)
}

// checkFollows holds each place of s, and each two of them, against what follows.
func checkFollows(t *testing.T, s string) {
	t.Helper()
	for k := range len(s) + 1 {
		c := Of(s, k)
		wantPlace(t, s, c, k, true)
		for before := range k {
			if d := Of(s, before); !isBehind(c, d) || c == d {
				t.Errorf("%q: %v of %d is not behind %v of %d", s, c, k, d, before)
			}
		}
	}
}

// P11.4: each place is told back by its spot, and spots rise.
func TestFollows(t *testing.T) {
	for s := range samples {
		checkFollows(t, s)
	}
	eachText("", 6, func(s string) { checkFollows(t, s) })
	checkFollows(t, strings.Repeat("a\r\n\r\nbc\r\r\n\n\u00e4", 9))
}

// W1: long texts end soon: a call that went back to the first byte for each place would not.
func TestLong(t *testing.T) {
	const n = 1 << 20
	for s, want := range map[string]complex128{
		strings.Repeat("a", n):        spotOf(0, n),
		strings.Repeat("\r\n", n):     spotOf(n, 0),
		strings.Repeat("\r", n):       spotOf(0, n),
		strings.Repeat("\n", n):       spotOf(0, n),
		strings.Repeat("a\r\nbc", n):  spotOf(n, 2),
		strings.Repeat("\u00e4\r", n): spotOf(0, 3*n),
		strings.Repeat("\r\r\n\n", n): spotOf(n, 1),
	} {
		wantOf(t, s, len(s), want)
		wantStep(t, 5, s, want+5)
		wantPlace(t, s, want, len(s), true)
		wantPlace(t, s, want+1i, 0, false)
	}
}
