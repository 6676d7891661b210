package norm

import (
	"math"
	"slices"
	"strings"
	"testing"

	"pillarbox/api"
	"pillarbox/ucd"
)

// odd are numbers that are no characters.
var odd = []rune{math.MinInt32, math.MinInt32 + 1, -0xac00, -0x301, -0x41, -1, 0xd800, 0xdbff, 0xdfff, 0x110000, 0x7fffac00, math.MaxInt32 - 1, math.MaxInt32}

// edges are parts and syllables of Hangul, and what stands just outside of them.
var edges = []rune{
	0x10ff, 0x1100, 0x1101, 0x1111, 0x1112, 0x1113, 0x1160, 0x1161, 0x1162, 0x1174, 0x1175, 0x1176,
	0x11a7, 0x11a8, 0x11a9, 0x11c1, 0x11c2, 0x11c3, 0xabe4, 0xabff, 0xac00, 0xac01, 0xac1b, 0xac1c, 0xac1d, 0xae4c, 0xd788, 0xd7a2, 0xd7a3, 0xd7a4, 0xd7a5,
}

// mixed are characters that meet in all ways: bases, marks of many Classes, what is split once, twice, Soft and Out, parts of syllables, others.
var mixed = []rune{
	'A', 'a', 'c', 'x', 0, 0x301, 0x302, 0x308, 0x30a, 0x323, 0x327, 0x5b0, 0x64b, 0x652, 0x915, 0x93c, 0x94d, 0x30ab, 0x3099,
	0xb2, 0xc5, 0xe2, 0xe4, 0xe7, 0x419, 0x958, 0x1ea4, 0x1ea5, 0x212a, 0x212b, 0x30ac, 0xfb01, 0xff21,
	0x1100, 0x1161, 0x11a7, 0x11a8, 0xac00, 0xac01, 0xd7a3, 0x4e00, 0x10400,
}

// few are those of mixed of which longer rows are made.
var few = []rune{'a', 'c', 0x301, 0x302, 0x308, 0x323, 0x327, 0x3099, 0x1100, 0x1161, 0x11a8, 0xac00}

// eachRow hands on every row of n out of some.
func eachRow(some []rune, n int, do func([]rune)) {
	row := make([]rune, n)
	var fill func(int)
	fill = func(at int) {
		if at == n {
			do(row)
			return
		}
		for _, r := range some {
			row[at] = r
			fill(at + 1)
		}
	}
	fill(0)
}

// eachMixed hands on all rows that the program is held against slow by.
func eachMixed(do func([]rune)) {
	for n := range 3 {
		eachRow(slices.Concat(mixed, edges), n, do)
	}
	eachRow(mixed, 3, do)
	eachRow(few, 4, do)
	eachRow(few[:8], 5, do)
}

// want holds one answer against what it must be.
func want(t *testing.T, what string, l, got, want []rune) {
	t.Helper()
	if !slices.Equal(got, want) {
		t.Errorf("%s of %x: got %x, want %x", what, l, got, want)
	}
}

// P3.1: what is split once, twice, softly or not at all.
func TestSplit(t *testing.T) {
	u := ucd.New()
	for _, c := range []struct{ l, hard, soft []rune }{
		{nil, nil, nil},
		{[]rune{'a'}, []rune{'a'}, []rune{'a'}},
		{[]rune{0}, []rune{0}, []rune{0}},
		{[]rune{0xc4}, []rune{'A', 0x308}, []rune{'A', 0x308}},
		{[]rune{0xe7, 0x301}, []rune{'c', 0x327, 0x301}, []rune{'c', 0x327, 0x301}},
		{[]rune{0x212a}, []rune{'K'}, []rune{'K'}},                             // one alone, and Out
		{[]rune{0x958}, []rune{0x915, 0x93c}, []rune{0x915, 0x93c}},            // two, and Out
		{[]rune{0x212b}, []rune{'A', 0x30a}, []rune{'A', 0x30a}},               // split again, by way of c5
		{[]rune{0x1ea4}, []rune{'A', 0x302, 0x301}, []rune{'A', 0x302, 0x301}}, // by way of c2
		{[]rune{0x1ea5}, []rune{'a', 0x302, 0x301}, []rune{'a', 0x302, 0x301}},
		{[]rune{0xa0}, []rune{0xa0}, []rune{' '}},
		{[]rune{0xb2, 0xb3}, []rune{0xb2, 0xb3}, []rune{'2', '3'}},
		{[]rune{0xfb01, 0xfb02}, []rune{0xfb01, 0xfb02}, []rune{'f', 'i', 'f', 'l'}},
		{[]rune{0xff01, 0xff5e}, []rune{0xff01, 0xff5e}, []rune{'!', '~'}},
		{[]rune{0xff00, 0xff5f}, []rune{0xff00, 0xff5f}, []rune{0xff00, 0xff5f}},
		{[]rune{0xff21, 0x308}, []rune{0xff21, 0x308}, []rune{'A', 0x308}},
		{[]rune{'x', 0xe4, 0xfb01, 0x30ac, 0xac01, 'y'}, []rune{'x', 'a', 0x308, 0xfb01, 0x30ab, 0x3099, 0x1100, 0x1161, 0x11a8, 'y'}, []rune{'x', 'a', 0x308, 'f', 'i', 0x30ab, 0x3099, 0x1100, 0x1161, 0x11a8, 'y'}},
		{[]rune{0x323, 0x308, 0x323}, []rune{0x323, 0x308, 0x323}, []rune{0x323, 0x308, 0x323}}, // nothing is ordered
		{[]rune{0xe4, 0x323}, []rune{'a', 0x308, 0x323}, []rune{'a', 0x308, 0x323}},
		{[]rune{0x1100, 0x1161, 0x11a8}, []rune{0x1100, 0x1161, 0x11a8}, []rune{0x1100, 0x1161, 0x11a8}},
		{odd, odd, odd},
	} {
		want(t, "Split", c.l, Split(u, c.l, false), c.hard)
		want(t, "soft Split", c.l, Split(u, c.l, true), c.soft)
	}
}

// P3.1: the syllables at the ends, of two and of three, and what stands just outside.
func TestSplitSyllables(t *testing.T) {
	u := ucd.New()
	for _, c := range []struct {
		r    rune
		want []rune
	}{
		{0xabff, []rune{0xabff}},
		{0xac00, []rune{0x1100, 0x1161}},
		{0xac01, []rune{0x1100, 0x1161, 0x11a8}},
		{0xac1b, []rune{0x1100, 0x1161, 0x11c2}},
		{0xac1c, []rune{0x1100, 0x1162}},
		{0xac1d, []rune{0x1100, 0x1162, 0x11a8}},
		{0xae30, []rune{0x1100, 0x1175}},
		{0xae4b, []rune{0x1100, 0x1175, 0x11c2}},
		{0xae4c, []rune{0x1101, 0x1161}},
		{0xd55c, []rune{0x1112, 0x1161, 0x11ab}},
		{0xd788, []rune{0x1112, 0x1175}},
		{0xd789, []rune{0x1112, 0x1175, 0x11a8}},
		{0xd7a3, []rune{0x1112, 0x1175, 0x11c2}},
		{0xd7a4, []rune{0xd7a4}},
		{0x1100, []rune{0x1100}},
		{0x1161, []rune{0x1161}},
		{0x11a8, []rune{0x11a8}},
		{-0xac00, []rune{-0xac00}},
	} {
		for _, soft := range []bool{false, true} {
			want(t, "Split", []rune{c.r}, Split(u, []rune{c.r}, soft), c.want)
		}
	}
}

// P3.2: marks of one Class and of unlike ones, ahead of all else, between others, behind all.
func TestOrder(t *testing.T) {
	u := ucd.New()
	for _, c := range []struct{ l, want []rune }{
		{nil, nil},
		{[]rune{'b', 'a', 0, 0xac00}, []rune{'b', 'a', 0, 0xac00}},
		{[]rune{0x308}, []rune{0x308}},
		{[]rune{0x308, 0x323}, []rune{0x323, 0x308}},
		{[]rune{0x323, 0x308}, []rune{0x323, 0x308}},
		{[]rune{'a', 0x308, 0x323}, []rune{'a', 0x323, 0x308}},
		{[]rune{'a', 0x308, 0x301, 0x300}, []rune{'a', 0x308, 0x301, 0x300}},
		{[]rune{'a', 0x301, 0x308, 0x301}, []rune{'a', 0x301, 0x308, 0x301}},
		{[]rune{'a', 0x308, 0x323, 0x301, 0x327, 0x300, 0x323}, []rune{'a', 0x327, 0x323, 0x323, 0x308, 0x301, 0x300}},
		{[]rune{0x308, 0x323, 'a', 0x308, 0x327, 'b', 0x323, 0x327}, []rune{0x323, 0x308, 'a', 0x327, 0x308, 'b', 0x327, 0x323}},
		{[]rune{0x308, 'a', 0x323, 'b', 0x327}, []rune{0x308, 'a', 0x323, 'b', 0x327}}, // nothing goes past what is no mark
		{[]rune{0x308, 0x305, 0x323}, []rune{0x308, 0x305, 0x323}},                     // 305 has no Class
		{[]rune{0x308, -1, 0x323}, []rune{0x308, -1, 0x323}},
		{[]rune{0x301, 0x323, 0x327, 0x652, 0x64c, 0x64b, 0x5b9, 0x5b0, 0x94d, 0x3099, 0x93c}, []rune{0x93c, 0x3099, 0x94d, 0x5b0, 0x5b9, 0x64b, 0x64c, 0x652, 0x327, 0x323, 0x301}},
		{[]rune{0xe4, 0x323}, []rune{0xe4, 0x323}}, // nothing is split
		{odd, odd},
	} {
		want(t, "Order", c.l, Order(u, c.l), c.want)
	}
}

// P3.2: many marks of few Classes keep their order within a Class, however many there are.
func TestOrderOfMany(t *testing.T) {
	u := ucd.New()
	classes := [][]rune{{0x93c}, {0x327}, {0x323}, {0x300, 0x301, 0x302, 0x303, 0x304, 0x306, 0x307, 0x308, 0x30a}}
	var l, low, mid, high, top []rune
	for k := range 3000 {
		c := classes[k*7%len(classes)]
		r := c[k*k%len(c)]
		l = append(l, r)
		switch u.Class(r) {
		case 7:
			low = append(low, r)
		case 202:
			mid = append(mid, r)
		case 220:
			high = append(high, r)
		default:
			top = append(top, r)
		}
	}
	sorted := slices.Concat(low, mid, high, top)
	if got := Order(u, l); !slices.Equal(got, sorted) {
		t.Error("3000 marks are not in order")
	}
	if got := Order(u, slices.Concat(l, []rune{'a'}, l)); !slices.Equal(got, slices.Concat(sorted, []rune{'a'}, sorted)) {
		t.Error("3000 marks twice are not in order")
	}
}

// P3.3: what is joined, and what is not, by what stands between.
func TestJoin(t *testing.T) {
	u := ucd.New()
	for _, c := range []struct{ l, want []rune }{
		{nil, nil},
		{[]rune{'a'}, []rune{'a'}},
		{[]rune{'a', 'b'}, []rune{'a', 'b'}},
		{[]rune{'a', 0x308}, []rune{0xe4}},
		{[]rune{'x', 'a', 0x308, 'y'}, []rune{'x', 0xe4, 'y'}},
		{[]rune{0x308, 'a'}, []rune{0x308, 'a'}},
		{[]rune{0x308, 0x323, 'a', 0x308}, []rune{0x308, 0x323, 0xe4}}, // marks ahead have nothing to be held against
		{[]rune{0x308}, []rune{0x308}},
		{[]rune{'a', 0x323, 0x308}, []rune{0xe4, 0x323}},
		{[]rune{'a', 0x327, 0x323, 0x308}, []rune{0xe4, 0x327, 0x323}},
		{[]rune{'a', 0x308, 0x323}, []rune{0xe4, 0x323}},
		{[]rune{'a', 0x308, 0x323, 0x301}, []rune{0xe4, 0x323, 0x301}},
		{[]rune{'a', 0x301, 0x308}, []rune{0xe1, 0x308}},                     // e1 and 308 make nothing
		{[]rune{'a', 0x304, 0x308}, []rune{'a', 0x304, 0x308}},               // 304 is of the same Class
		{[]rune{'c', 0x323, 0x327}, []rune{'c', 0x323, 0x327}},               // 323 is of a greater Class
		{[]rune{'e', 0x304, 0x323, 0x301}, []rune{'e', 0x304, 0x323, 0x301}}, // 304 counts, though 323 stands nearer
		{[]rune{'e', 0x323, 0x304, 0x301}, []rune{'e', 0x323, 0x304, 0x301}},
		{[]rune{'a', 'b', 0x308}, []rune{'a', 'b', 0x308}},
		{[]rune{'a', -1, 0x308}, []rune{'a', -1, 0x308}},
		{[]rune{'a', 0x305, 0x308}, []rune{'a', 0x305, 0x308}}, // 305 has no Class, so it is the last one ahead
		{[]rune{'a', 0x302, 0x301}, []rune{0x1ea5}},            // what is made goes on
		{[]rune{'a', 0x323, 0x302, 0x301}, []rune{0x1ea5, 0x323}},
		{[]rune{'a', 0x302, 0x323, 0x301}, []rune{0x1ea5, 0x323}},
		{[]rune{0xe2, 0x301, 'A', 0x302, 0x301}, []rune{0x1ea5, 0x1ea4}},
		{[]rune{'x', 0x304, 'a', 0x308}, []rune{'x', 0x304, 0xe4}}, // marks ahead of the last one do not count
		{[]rune{'a', 0x304, 0x1161, 0x308}, []rune{'a', 0x304, 0x1161, 0x308}},
		{[]rune{0x915, 0x93c}, []rune{0x915, 0x93c}}, // Out
		{[]rune{'K', 'f', 'i', 0x958, 0x212b}, []rune{'K', 'f', 'i', 0x958, 0x212b}},
		{[]rune{'a', 0}, []rune{'a', 0}},
		{[]rune{0x30ab, 0x3099, 0x30b3, 0x3099}, []rune{0x30ac, 0x30b4}},
		{[]rune{0x30ab, 0x94d, 0x3099}, []rune{0x30ab, 0x94d, 0x3099}},
		{[]rune{0x30ab, 0x93c, 0x3099}, []rune{0x30ac, 0x93c}},
		{odd, odd},
	} {
		want(t, "Join", c.l, Join(u, c.l), c.want)
	}
}

// P3.3: parts that make a syllable, and what makes none: the neighbours of the parts, a syllable of three, what stands between.
func TestJoinSyllables(t *testing.T) {
	u := ucd.New()
	for _, c := range []struct{ l, want []rune }{
		{[]rune{0x1100, 0x1161}, []rune{0xac00}},
		{[]rune{0x1100, 0x1161, 0x11a8}, []rune{0xac01}},
		{[]rune{0x1100, 0x1161, 0x11c2}, []rune{0xac1b}},
		{[]rune{0x1100, 0x1175}, []rune{0xae30}},
		{[]rune{0x1112, 0x1161, 0x11ab}, []rune{0xd55c}},
		{[]rune{0x1112, 0x1175}, []rune{0xd788}},
		{[]rune{0x1112, 0x1175, 0x11c2}, []rune{0xd7a3}},
		{[]rune{0xac00, 0x11a8}, []rune{0xac01}},
		{[]rune{0xac1c, 0x11a8}, []rune{0xac1d}},
		{[]rune{0xd788, 0x11c2}, []rune{0xd7a3}},
		{[]rune{0x1100, 0x1100, 0x1161, 0x11a8, 0x11a8}, []rune{0x1100, 0xac01, 0x11a8}},
		{[]rune{0x1100, 0x1161, 0x1100, 0x1161, 0x11a8}, []rune{0xac00, 0xac01}},
		{[]rune{0x1100, 0x1161, 0x1161}, []rune{0xac00, 0x1161}},
	} {
		want(t, "Join", c.l, Join(u, c.l), c.want)
	}
	for _, l := range [][]rune{
		{0x10ff, 0x1161}, {0x1113, 0x1161}, {0x1100, 0x1160}, {0x1100, 0x1176}, {0x1112, 0x1176},
		{0xac00, 0x11a7}, {0xac00, 0x11c3}, {0xac01, 0x11a8}, {0xac1b, 0x11a8}, {0xd7a3, 0x11a8},
		{0xabe4, 0x11a8}, {0xabff, 0x11a8}, {0xd7a4, 0x11a8}, // abe4 and d7a4 stand as those of two would
		{0xac00, 0x1161}, {0x1100, 0x11a8}, {0x1161, 0x11a8}, {0x1161, 0x1100},
		{0x1100, 0x301, 0x1161}, {0xac00, 0x301, 0x11a8}, {0xac00, 'a', 0x11a8}, {0x1100, -1, 0x1161},
		{math.MinInt32, 0x1161}, {math.MaxInt32, 0x11a8}, {0x1100, math.MinInt32}, {0xac00, math.MaxInt32}, {-0xac00, 0x11a8},
	} {
		want(t, "Join", l, Join(u, l), l)
	}
}

// P3.3: Join leans on this: what two make is never a mark, nor is what a pair begins with.
func TestPairsAreNoMarks(t *testing.T) {
	u := ucd.New()
	for _, row := range api.Splits() {
		if u.Class(row.Rune) > 0 || u.Class(row.One) > 0 {
			t.Errorf("%x, or %x that it begins with, is a mark", row.Rune, row.One)
		}
	}
}

// P3.1 to P3.3: each step, held against the promises' words done slowly, on many rows.
func TestSteps(t *testing.T) {
	u, s := ucd.New(), newSlow()
	eachMixed(func(l []rune) {
		want(t, "Split", l, Split(u, l, false), s.split(l, false))
		want(t, "soft Split", l, Split(u, l, true), s.split(l, true))
		want(t, "Order", l, Order(u, l), s.order(l))
		want(t, "Join", l, Join(u, l), s.join(l))
		if t.Failed() {
			t.FailNow()
		}
	})
}

// P3.1, P3.3: every number near the tables is split as told, and every syllable is joined again.
func TestStepsOfAll(t *testing.T) {
	u, s := ucd.New(), newSlow()
	for r := rune(-0x200); r < 0x11000; r++ {
		l := []rune{r}
		want(t, "Split", l, Split(u, l, false), s.split(l, false))
		want(t, "soft Split", l, Split(u, l, true), s.split(l, true))
		want(t, "Order", l, Order(u, l), l)
		want(t, "Join", l, Join(u, l), l)
		if parts := s.parts[r]; parts != nil {
			want(t, "Join", parts, Join(u, parts), l)
		}
	}
	for a := rune(0x10f0); a < 0x11d0; a++ {
		for b := rune(0x10f0); b < 0x11d0; b++ {
			l := []rune{a, b}
			want(t, "Join", l, Join(u, l), s.join(l))
		}
	}
	for a := rune(0xab00); a < 0xd800; a++ {
		for b := rune(0x11a0); b < 0x11c8; b++ {
			l := []rune{a, b}
			want(t, "Join", l, Join(u, l), s.join(l))
		}
	}
}

// fourForms are NFD, NFC, NFKD and NFKC of s, and whether all of them, or none, are.
func fourForms(t *testing.T, u ucd.Table, s string) ([4]string, bool) {
	t.Helper()
	var f [4]string
	var is [4]bool
	f[0], is[0] = NFD(u, s)
	f[1], is[1] = NFC(u, s)
	f[2], is[2] = NFKD(u, s)
	f[3], is[3] = NFKC(u, s)
	if is != [4]bool{} && is != [4]bool{true, true, true, true} {
		t.Errorf("%+q: forms are %v", s, is)
	}
	return f, is[0]
}

// P3.4: strings in their four forms.
func TestForms(t *testing.T) {
	u := ucd.New()
	for _, c := range []struct {
		s    string
		want [4]string
	}{
		{"", [4]string{}},
		{"abc", [4]string{"abc", "abc", "abc", "abc"}},
		{"\x00", [4]string{"\x00", "\x00", "\x00", "\x00"}},
		{"b\u00fccher", [4]string{"bu\u0308cher", "b\u00fccher", "bu\u0308cher", "b\u00fccher"}},
		{"a\u0323\u0308", [4]string{"a\u0323\u0308", "\u00e4\u0323", "a\u0323\u0308", "\u00e4\u0323"}},
		{"a\u0308\u0323", [4]string{"a\u0323\u0308", "\u00e4\u0323", "a\u0323\u0308", "\u00e4\u0323"}},
		{"\u00e4\u0323", [4]string{"a\u0323\u0308", "\u00e4\u0323", "a\u0323\u0308", "\u00e4\u0323"}},
		{"c\u0323\u0327", [4]string{"c\u0327\u0323", "\u00e7\u0323", "c\u0327\u0323", "\u00e7\u0323"}},
		{"e\u0304\u0301", [4]string{"e\u0304\u0301", "e\u0304\u0301", "e\u0304\u0301", "e\u0304\u0301"}},
		{"\u212a\u212b", [4]string{"KA\u030a", "K\u00c5", "KA\u030a", "K\u00c5"}},
		{"\u0958", [4]string{"\u0915\u093c", "\u0915\u093c", "\u0915\u093c", "\u0915\u093c"}},
		{"\u1ea4", [4]string{"A\u0302\u0301", "\u1ea4", "A\u0302\u0301", "\u1ea4"}},
		{"\uff21\u0308\ufb01\u00b2", [4]string{"\uff21\u0308\ufb01\u00b2", "\uff21\u0308\ufb01\u00b2", "A\u0308fi2", "\u00c4fi2"}},
		{"\ud55c\uae00", [4]string{"\u1112\u1161\u11ab\u1100\u1173\u11af", "\ud55c\uae00", "\u1112\u1161\u11ab\u1100\u1173\u11af", "\ud55c\uae00"}},
		{"\u1112\u1161\u11ab", [4]string{"\u1112\u1161\u11ab", "\ud55c", "\u1112\u1161\u11ab", "\ud55c"}},
		{"\u0323\u0308", [4]string{"\u0323\u0308", "\u0323\u0308", "\u0323\u0308", "\u0323\u0308"}},
		{"\u0308\u0323a", [4]string{"\u0323\u0308a", "\u0323\u0308a", "\u0323\u0308a", "\u0323\u0308a"}},
		{"\U00010400\U0010ffff", [4]string{"\U00010400\U0010ffff", "\U00010400\U0010ffff", "\U00010400\U0010ffff", "\U00010400\U0010ffff"}},
	} {
		got, is := fourForms(t, u, c.s)
		if got != c.want || !is {
			t.Errorf("%+q: got %+q, %v, want %+q", c.s, got, is, c.want)
		}
		if Is(u, c.s) != (c.s == c.want[1]) {
			t.Errorf("%+q: Is is wrong", c.s)
		}
	}
}

// P3.4: what is not all characters has no form, wherever it is wrong.
func TestWrongStrings(t *testing.T) {
	u := ucd.New()
	for _, wrong := range []string{"\xff", "\x80", "\xc3", "\xc0\x80", "\xe0\x80\x80", "\xed\xa0\x80", "\xed\xbf\xbf", "\xf4\x90\x80\x80", "\xea\xb0"} {
		for _, s := range []string{wrong, "a" + wrong, "\u00e4" + wrong, wrong + "a", wrong + "\u0308", "a" + wrong + "\u0308", strings.Repeat("\u00e4", 100) + wrong} {
			if got, is := fourForms(t, u, s); got != [4]string{} || is {
				t.Errorf("% x: got %+q, %v, want nothing", s, got, is)
			}
			if Is(u, s) {
				t.Errorf("% x is not in NFC", s)
			}
		}
	}
}

// P3.4, P3.6: the forms of one string are as slow tells them, and stand to each other as they must.
func checkForms(t *testing.T, u ucd.Table, s slow, l []rune) {
	t.Helper()
	text := string(l)
	f, is := fourForms(t, u, text)
	if f != s.forms(l) || !is {
		t.Fatalf("%+q: got %+q, %v, want %+q", text, f, is, s.forms(l))
	}
	if Is(u, text) != (text == f[1]) {
		t.Fatalf("%+q: Is is wrong", text)
	}
	// Of each form its four forms: D and C of D and C are these, K takes all; of KD and KC all four are these again.
	for k, again := range [4][4]string{{f[0], f[1], f[2], f[3]}, {f[0], f[1], f[2], f[3]}, {f[2], f[3], f[2], f[3]}, {f[2], f[3], f[2], f[3]}} {
		if g, is := fourForms(t, u, f[k]); g != again || !is {
			t.Fatalf("%+q: of its form %d, %+q: got %+q, %v, want %+q", text, k, f[k], g, is, again)
		}
	}
	if !Is(u, f[1]) || !Is(u, f[3]) {
		t.Fatalf("%+q: NFC or NFKC is not in NFC", text)
	}
}

// P3.4, P3.6: many strings.
func TestFormsOfMixed(t *testing.T) {
	u, s := ucd.New(), newSlow()
	eachMixed(func(l []rune) { checkForms(t, u, s, l) })
}

// P3.4, P3.6: every character near the tables, alone.
func TestFormsOfAll(t *testing.T) {
	u, s := ucd.New(), newSlow()
	for r := rune(0); r < 0x11000; r++ {
		if r < 0xd800 || 0xdfff < r {
			checkForms(t, u, s, []rune{r})
		}
	}
}

// P3.5: what is handed in, spare room too, is not changed, and shares nothing with what is answered.
func TestNewMemory(t *testing.T) {
	u := ucd.New()
	fill := func(l []rune, r rune) {
		l = l[:cap(l)]
		for k := range l {
			l[k] = r
		}
	}
	steps := map[string]func([]rune) []rune{
		"Split":      func(l []rune) []rune { return Split(u, l, false) },
		"soft Split": func(l []rune) []rune { return Split(u, l, true) },
		"Order":      func(l []rune) []rune { return Order(u, l) },
		"Join":       func(l []rune) []rune { return Join(u, l) },
	}
	for _, l := range [][]rune{{}, {'a'}, {'a', 'b'}, {0x308, 0x323}, {'a', 0x308, 0x323}, {'a', 0x323, 0x308}, {0xe4, 0xac01, 0xfb01}, {0x1100, 0x1161, 0x11a8}} {
		for name, step := range steps {
			room := make([]rune, 2*len(l)+8)
			fill(room, 'x')
			arg := room[:len(l)]
			copy(arg, l)
			before := slices.Clone(room)
			first := step(arg)
			kept := slices.Clone(first)
			second := step(arg)
			fill(first, 'y')
			if !slices.Equal(room, before) {
				t.Errorf("%s of %x: the argument, or its spare room, changed", name, l)
			}
			if !slices.Equal(second, kept) {
				t.Errorf("%s of %x: two answers share memory", name, l)
			}
			fill(room, 'z')
			if !slices.Equal(second, kept) {
				t.Errorf("%s of %x: the answer shares memory with the argument", name, l)
			}
		}
	}
}

// P3.2, P3.3: a great many marks behind one base end in good time.
func TestManyMarks(t *testing.T) {
	u := ucd.New()
	const n = 100000
	marks := strings.Repeat("\u0304\u0323", n)
	got, is := NFC(u, "a"+marks)
	if got != "a"+strings.Repeat("\u0323", n)+strings.Repeat("\u0304", n) || !is {
		t.Error("many marks are not in order")
	}
	got, is = NFC(u, strings.Repeat("a\u0308\u0323", n))
	if got != strings.Repeat("\u00e4\u0323", n) || !is {
		t.Error("many joined ones are wrong")
	}
}
