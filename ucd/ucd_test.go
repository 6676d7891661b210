package ucd

import (
	"math"
	"testing"

	"pillarbox/api"
)

// lastTried lies well behind the last character of all tables (1044f) and of Unicode (10ffff).
const lastTried = 0x110100

// farOff are numbers that no table has: negative ones, and those beyond all tables.
var farOff = []rune{math.MinInt32, math.MinInt32 + 1, -0x10400, -0xff01, -0x41, -2, -1, 0x10450, 0x10ffff, 0x110000, math.MaxInt32 - 1, math.MaxInt32}

// kinds is what a range tells: Cat, Bidi, Join, Script.
func kinds(t Table, r rune) [4]int {
	return [4]int{t.Cat(r), t.Bidi(r), t.Join(r), t.Script(r)}
}

// P1.1: the search leans on rows that rise and do not overlap.
func TestRowsRise(t *testing.T) {
	rise := func(name string, ends [][2]rune) {
		t.Helper()
		for i, e := range ends {
			if e[0] > e[1] || i > 0 && ends[i-1][1] >= e[0] {
				t.Errorf("%s: row %d, %x to %x, does not rise", name, i, e[0], e[1])
			}
		}
	}
	var ranges, classes, lowers, splits [][2]rune
	for _, x := range api.Ranges() {
		ranges = append(ranges, [2]rune{x.Lo, x.Hi})
	}
	for _, x := range api.Classes() {
		classes = append(classes, [2]rune{x.Lo, x.Hi})
	}
	for _, x := range api.Lowers() {
		lowers = append(lowers, [2]rune{x.Lo, x.Hi})
	}
	for _, x := range api.Splits() {
		splits = append(splits, [2]rune{x.Rune, x.Rune})
	}
	rise("Ranges", ranges)
	rise("Classes", classes)
	rise("Lowers", lowers)
	rise("Splits", splits)
}

// P1.1: ordinary characters, the ends of ranges, and those just outside of them.
func TestKinds(t *testing.T) {
	u := New()
	for _, c := range []struct {
		r    rune
		want [4]int
	}{
		{0, [4]int{api.CatControl, api.BidiOther, api.JoinNone, api.ScriptCommon}},
		{0x1f, [4]int{api.CatControl, api.BidiOther, api.JoinNone, api.ScriptCommon}},
		{' ', [4]int{api.CatSpace, api.BidiOther, api.JoinNone, api.ScriptCommon}},
		{'!', [4]int{api.CatPunct, api.BidiOther, api.JoinNone, api.ScriptCommon}},
		{',', [4]int{api.CatPunct, api.BidiOther, api.JoinNone, api.ScriptCommon}},
		{'-', [4]int{api.CatPunct, api.BidiSign, api.JoinNone, api.ScriptCommon}},
		{'/', [4]int{api.CatPunct, api.BidiSign, api.JoinNone, api.ScriptCommon}},
		{'0', [4]int{api.CatDigit, api.BidiNumber, api.JoinNone, api.ScriptCommon}},
		{'9', [4]int{api.CatDigit, api.BidiNumber, api.JoinNone, api.ScriptCommon}},
		{'@', [4]int{api.CatPunct, api.BidiOther, api.JoinNone, api.ScriptCommon}},
		{'A', [4]int{api.CatUpper, api.BidiLeft, api.JoinNone, api.ScriptLatin}},
		{'Z', [4]int{api.CatUpper, api.BidiLeft, api.JoinNone, api.ScriptLatin}},
		{'[', [4]int{api.CatPunct, api.BidiOther, api.JoinNone, api.ScriptCommon}},
		{'a', [4]int{api.CatLower, api.BidiLeft, api.JoinNone, api.ScriptLatin}},
		{'z', [4]int{api.CatLower, api.BidiLeft, api.JoinNone, api.ScriptLatin}},
		{'~', [4]int{api.CatSymbol, api.BidiOther, api.JoinNone, api.ScriptCommon}},
		{0x7f, [4]int{api.CatControl, api.BidiOther, api.JoinNone, api.ScriptCommon}},
		{0x80, [4]int{}},
		{0x9f, [4]int{}},
		{0xa0, [4]int{api.CatSpace, api.BidiOther, api.JoinNone, api.ScriptCommon}},
		{0xa1, [4]int{}},
		{0xd7, [4]int{api.CatSymbol, api.BidiOther, api.JoinNone, api.ScriptCommon}},
		{0xff, [4]int{api.CatLower, api.BidiLeft, api.JoinNone, api.ScriptLatin}},
		{0x100, [4]int{}},
		{0x2ff, [4]int{}},
		{0x300, [4]int{api.CatMark, api.BidiMark, api.JoinClear, api.ScriptCommon}},
		{0x304, [4]int{api.CatMark, api.BidiMark, api.JoinClear, api.ScriptCommon}},
		{0x305, [4]int{}},
		{0x306, [4]int{api.CatMark, api.BidiMark, api.JoinClear, api.ScriptCommon}},
		{0x375, [4]int{api.CatSymbol, api.BidiOther, api.JoinNone, api.ScriptGreek}},
		{0x3a1, [4]int{api.CatUpper, api.BidiLeft, api.JoinNone, api.ScriptGreek}},
		{0x3a2, [4]int{}},
		{0x3a3, [4]int{api.CatUpper, api.BidiLeft, api.JoinNone, api.ScriptGreek}},
		{0x44f, [4]int{api.CatLower, api.BidiLeft, api.JoinNone, api.ScriptCyril}},
		{0x5b0, [4]int{api.CatMark, api.BidiMark, api.JoinClear, api.ScriptHebrew}},
		{0x5d0, [4]int{api.CatLetter, api.BidiRight, api.JoinNone, api.ScriptHebrew}},
		{0x5f4, [4]int{api.CatPunct, api.BidiRight, api.JoinNone, api.ScriptHebrew}},
		{0x627, [4]int{api.CatLetter, api.BidiArabic, api.JoinRight, api.ScriptArabic}},
		{0x628, [4]int{api.CatLetter, api.BidiArabic, api.JoinBoth, api.ScriptArabic}},
		{0x652, [4]int{api.CatMark, api.BidiMark, api.JoinClear, api.ScriptCommon}},
		{0x660, [4]int{api.CatDigit, api.BidiArNum, api.JoinNone, api.ScriptArabic}},
		{0x6f9, [4]int{api.CatDigit, api.BidiNumber, api.JoinNone, api.ScriptArabic}},
		{0x94d, [4]int{api.CatMark, api.BidiMark, api.JoinClear, api.ScriptNagari}},
		{0x200b, [4]int{}},
		{0x200c, [4]int{api.CatFormat, api.BidiOther, api.JoinNone, api.ScriptCommon}},
		{0x200d, [4]int{api.CatFormat, api.BidiOther, api.JoinNone, api.ScriptCommon}},
		{0x200e, [4]int{}},
		{0x30fa, [4]int{api.CatLetter, api.BidiLeft, api.JoinNone, api.ScriptKana}},
		{0x4e00, [4]int{api.CatLetter, api.BidiLeft, api.JoinNone, api.ScriptHan}},
		{0x9fff, [4]int{api.CatLetter, api.BidiLeft, api.JoinNone, api.ScriptHan}},
		{0xa000, [4]int{}},
		{0xd7a3, [4]int{api.CatLetter, api.BidiLeft, api.JoinNone, api.ScriptHangul}},
		{0xd7a4, [4]int{}},
		{0xff00, [4]int{}},
		{0xff01, [4]int{api.CatPunct, api.BidiOther, api.JoinNone, api.ScriptCommon}},
		{0xff5e, [4]int{api.CatSymbol, api.BidiOther, api.JoinNone, api.ScriptCommon}},
		{0xff5f, [4]int{}},
		{0x103ff, [4]int{}},
		{0x10400, [4]int{api.CatUpper, api.BidiLeft, api.JoinNone, api.ScriptDeseret}},
		{0x1044f, [4]int{api.CatLower, api.BidiLeft, api.JoinNone, api.ScriptDeseret}},
		{0x10450, [4]int{}},
	} {
		if got := kinds(u, c.r); got != c.want {
			t.Errorf("%x: got %v, want %v", c.r, got, c.want)
		}
	}
}

// P1.1: every number is told of as the ranges say, read one by one.
func TestKindsOfAll(t *testing.T) {
	u := New()
	want := map[rune][4]int{}
	for _, x := range api.Ranges() {
		for r := x.Lo; r <= x.Hi; r++ {
			want[r] = [4]int{x.Cat, x.Bidi, x.Join, x.Script}
		}
	}
	for r := rune(-0x200); r < lastTried; r++ {
		if got := kinds(u, r); got != want[r] {
			t.Fatalf("%x: got %v, want %v", r, got, want[r])
		}
	}
}

// P1.1: classes grow by Step from Lo on.
func TestClass(t *testing.T) {
	u := New()
	for _, c := range []struct {
		r    rune
		want int
	}{
		{0x2ff, 0}, {0x300, 230}, {0x301, 230}, {0x304, 230}, {0x305, 0}, {0x306, 230}, {0x308, 230}, {0x309, 0}, {0x30a, 230}, {0x30b, 0},
		{0x322, 0}, {0x323, 220}, {0x324, 0}, {0x327, 202},
		{0x5af, 0}, {0x5b0, 10}, {0x5b1, 11}, {0x5b3, 13}, {0x5b9, 19}, {0x5ba, 0},
		{0x64a, 0}, {0x64b, 27}, {0x64c, 28}, {0x652, 34}, {0x653, 0},
		{0x93c, 7}, {0x94d, 9}, {0x3098, 0}, {0x3099, 8}, {0x309a, 0}, {0, 0}, {'a', 0}, {0x10450, 0},
	} {
		if got := u.Class(c.r); got != c.want {
			t.Errorf("%x: got %d, want %d", c.r, got, c.want)
		}
	}
}

// P1.1: every number's class is as the rows say, read one by one.
func TestClassOfAll(t *testing.T) {
	u := New()
	want := map[rune]int{}
	for _, x := range api.Classes() {
		class := x.Class
		for r := x.Lo; r <= x.Hi; r++ {
			want[r] = class
			class += x.Step
		}
	}
	for r := rune(-0x200); r < lastTried; r++ {
		if got := u.Class(r); got != want[r] {
			t.Fatalf("%x: got %d, want %d", r, got, want[r])
		}
	}
}

// P1.2: the ends of the rows of Lowers, and those just outside of them.
func TestLower(t *testing.T) {
	u := New()
	for _, c := range []struct{ r, want rune }{
		{'@', '@'}, {'A', 'a'}, {'M', 'm'}, {'Z', 'z'}, {'[', '['}, {'a', 'a'}, {'z', 'z'}, {'1', '1'}, {0, 0},
		{0xbf, 0xbf}, {0xc0, 0xe0}, {0xd6, 0xf6}, {0xd7, 0xd7}, {0xd8, 0xf8}, {0xde, 0xfe}, {0xdf, 0xdf},
		{0x390, 0x390}, {0x391, 0x3b1}, {0x3a1, 0x3c1}, {0x3a2, 0x3a2}, {0x3a3, 0x3c3}, {0x3a9, 0x3c9}, {0x3aa, 0x3aa},
		{0x40f, 0x40f}, {0x410, 0x430}, {0x42f, 0x44f}, {0x430, 0x430},
		{0x1ea3, 0x1ea3}, {0x1ea4, 0x1ea5}, {0x1ea5, 0x1ea5},
		{0x2129, 0x2129}, {0x212a, 'k'}, {0x212b, 0xe5}, {0x212c, 0x212c},
		{0xff20, 0xff20}, {0xff21, 0xff41}, {0xff3a, 0xff5a}, {0xff3b, 0xff3b},
		{0x103ff, 0x103ff}, {0x10400, 0x10428}, {0x10427, 0x1044f}, {0x10428, 0x10428},
		{0x5d0, 0x5d0}, {0xac00, 0xac00},
	} {
		if got := u.Lower(c.r); got != c.want {
			t.Errorf("%x: got %x, want %x", c.r, got, c.want)
		}
	}
}

// P1.2: every number's small letter is as the rows say, read one by one; else it is itself.
func TestLowerOfAll(t *testing.T) {
	u := New()
	by := map[rune]rune{}
	for _, x := range api.Lowers() {
		for r := x.Lo; r <= x.Hi; r++ {
			by[r] = x.By
		}
	}
	for r := rune(-0x200); r < lastTried; r++ {
		if got := u.Lower(r); got != r+by[r] {
			t.Fatalf("%x: got %x, want %x", r, got, r+by[r])
		}
	}
}

// P1.2: of each category one character or more, and the neighbours of letters.
func TestLetter(t *testing.T) {
	u := New()
	for _, r := range []rune{'A', 'Z', 'a', 'z', 0xc0, 0xdf, 0xff, 0x3b1, 0x42f, 0x5d0, 0x5ea, 0x628, 0x915, 0x958, 0x1100, 0x212a, 0x3041, 0x4e00, 0x9fff, 0xac00, 0xd7a3, 0xfb01, 0xff21, 0xff5a, 0x10400, 0x1044f} {
		if !u.Letter(r) {
			t.Errorf("%x is a letter", r)
		}
	}
	for _, r := range []rune{0, 0x1f, ' ', '-', '0', '9', '@', '[', '`', '{', '~', 0x7f, 0x80, 0xa0, 0xb2, 0xb7, 0xd7, 0xf7, 0x301, 0x375, 0x5b0, 0x5f3, 0x660, 0x6f0, 0x93c, 0x200c, 0x200d, 0x3002, 0x30fb, 0xa000, 0xd7a4, 0xff10, 0xff40, 0x10450} {
		if u.Letter(r) {
			t.Errorf("%x is no letter", r)
		}
	}
}

// P1.2: letters are all of three categories, and no others.
func TestLetterOfAll(t *testing.T) {
	u := New()
	letters := map[rune]int{}
	for _, x := range api.Ranges() {
		for r := x.Lo; r <= x.Hi; r++ {
			if x.Cat == api.CatUpper || x.Cat == api.CatLower || x.Cat == api.CatLetter {
				letters[r] = x.Cat
			}
		}
	}
	for r := rune(-0x200); r < lastTried; r++ {
		if got := u.Letter(r); got != (letters[r] != 0) {
			t.Fatalf("%x: got %v", r, got)
		}
	}
}

// P1.3: rows of every kind (two, one, Soft, Out), wide characters, and the neighbours of both.
func TestSplit(t *testing.T) {
	u := New()
	for _, want := range []api.Split{
		{Rune: 0xa0, One: ' ', Soft: true, Out: true},
		{Rune: 0xb2, One: '2', Soft: true, Out: true},
		{Rune: 0xc0, One: 'A', Two: 0x300},
		{Rune: 0xc4, One: 'A', Two: 0x308},
		{Rune: 0xfc, One: 'u', Two: 0x308},
		{Rune: 0x419, One: 0x418, Two: 0x306},
		{Rune: 0x958, One: 0x915, Two: 0x93c, Out: true},
		{Rune: 0x1ea4, One: 0xc2, Two: 0x301},
		{Rune: 0x212a, One: 'K', Out: true},
		{Rune: 0x212b, One: 0xc5, Out: true},
		{Rune: 0x30ac, One: 0x30ab, Two: 0x3099},
		{Rune: 0xfb01, One: 'f', Two: 'i', Soft: true, Out: true},
		{Rune: 0xfb02, One: 'f', Two: 'l', Soft: true, Out: true},
		{Rune: 0xff01, One: '!', Soft: true, Out: true},
		{Rune: 0xff02, One: '"', Soft: true, Out: true},
		{Rune: 0xff21, One: 'A', Soft: true, Out: true},
		{Rune: 0xff5d, One: '}', Soft: true, Out: true},
		{Rune: 0xff5e, One: '~', Soft: true, Out: true},
	} {
		if got, is := u.Split(want.Rune); got != want || !is {
			t.Errorf("%x: got %v, %v, want %v", want.Rune, got, is, want)
		}
	}
	for _, r := range []rune{0, ' ', 'A', '~', 0x9f, 0xa1, 0xbf, 0xc6, 0xdf, 0xfd, 0x300, 0x1ea3, 0x1ea6, 0x2129, 0x212c, 0xac00, 0xfb00, 0xfb03, 0xfee0, 0xff00, 0xff5f, 0x10400} {
		if got, is := u.Split(r); got != (api.Split{}) || is {
			t.Errorf("%x: got %v, %v, want nothing", r, got, is)
		}
	}
}

// P1.3: every number is split as the rows, and the rule of wide characters, say.
func TestSplitOfAll(t *testing.T) {
	u := New()
	want := map[rune]api.Split{}
	for _, x := range api.Splits() {
		want[x.Rune] = x
	}
	for one := rune('!'); one <= '~'; one++ {
		want[one+0xfee0] = api.Split{Rune: one + 0xfee0, One: one, Soft: true, Out: true}
	}
	for r := rune(-0x200); r < lastTried; r++ {
		row, there := want[r]
		if got, is := u.Split(r); got != row || is != there {
			t.Fatalf("%x: got %v, %v, want %v, %v", r, got, is, row, there)
		}
	}
}

// P1.3: pairs, and what makes none: Soft or Out rows, 0 behind, wide characters, the wrong order, syllables of Hangul.
func TestPair(t *testing.T) {
	u := New()
	for _, c := range []struct{ a, b, want rune }{
		{'A', 0x300, 0xc0}, {'A', 0x308, 0xc4}, {'A', 0x30a, 0xc5}, {'C', 0x327, 0xc7}, {'u', 0x308, 0xfc},
		{0x418, 0x306, 0x419}, {0xc2, 0x301, 0x1ea4}, {0xe2, 0x301, 0x1ea5}, {0x30ab, 0x3099, 0x30ac}, {0x30b3, 0x3099, 0x30b4},
	} {
		if got, is := u.Pair(c.a, c.b); got != c.want || !is {
			t.Errorf("%x, %x: got %x, %v, want %x", c.a, c.b, got, is, c.want)
		}
	}
	for _, c := range [][2]rune{
		{0x915, 0x93c},         // Out
		{'f', 'i'}, {'f', 'l'}, // Soft and Out
		{'K', 0}, {0xc5, 0}, {' ', 0}, {'2', 0}, {'!', 0}, {'A', 0}, {0, 0}, // 0 behind
		{0x300, 'A'}, {0x308, 'A'}, {'A', 'A'}, {'B', 0x308}, {0, 0x308}, {'A', 0x305}, // none of these
		{0xc5, 0x301}, {0x1100, 0x1161}, {0xff21, 0x308},
		{-1, -1}, {-1, 0x308}, {'A', -1}, {math.MinInt32, math.MaxInt32}, {math.MaxInt32, 0x308}, {'A', math.MaxInt32}, {'A', math.MinInt32},
	} {
		if got, is := u.Pair(c[0], c[1]); got != 0 || is {
			t.Errorf("%x, %x: got %x, %v, want nothing", c[0], c[1], got, is)
		}
	}
}

// P1.3: of all that rows are made of, each two make what the rows say, and no others make anything.
func TestPairOfAll(t *testing.T) {
	u := New()
	want := map[[2]rune]rune{}
	parts := map[rune]int{0: 0}
	for _, x := range api.Splits() {
		parts[x.Rune], parts[x.One], parts[x.Two] = 1, 1, 1
		if !x.Soft && !x.Out && x.Two != 0 {
			want[[2]rune{x.One, x.Two}] = x.Rune
		}
	}
	for a := range parts {
		for b := range parts {
			made := want[[2]rune{a, b}]
			if got, is := u.Pair(a, b); got != made || is != (made != 0) {
				t.Errorf("%x, %x: got %x, %v, want %x", a, b, got, is, made)
			}
		}
	}
}

// P1.3: Soft, Out and 0 behind each keep a row from making a pair; in api's rows they stand together, so these rows are the test's own.
func TestPairNeedsAll(t *testing.T) {
	u := Table{splits: []api.Split{
		{Rune: 0xb0, One: 'a', Two: 'b', Soft: true},
		{Rune: 0xb1, One: 'a', Two: 'c', Out: true},
		{Rune: 0xb2, One: 'a', Two: 0},
		{Rune: 0xb3, One: 'a', Two: 'd'},
	}}
	for _, b := range []rune{'b', 'c', 0} {
		if got, is := u.Pair('a', b); got != 0 || is {
			t.Errorf("a, %x: got %x, %v, want nothing", b, got, is)
		}
	}
	if got, is := u.Pair('a', 'd'); got != 0xb3 || !is {
		t.Errorf("a, d: got %x, %v, want b3", got, is)
	}
}

// P1.1 to P1.3: of what is in no table nothing is told.
func TestFarOff(t *testing.T) {
	u := New()
	for _, r := range farOff {
		if got := kinds(u, r); got != [4]int{} {
			t.Errorf("%d: got %v, want zeros", r, got)
		}
		if got := u.Class(r); got != 0 {
			t.Errorf("%d: class %d", r, got)
		}
		if got := u.Lower(r); got != r {
			t.Errorf("%d: small letter %d", r, got)
		}
		if u.Letter(r) {
			t.Errorf("%d is a letter", r)
		}
		if got, is := u.Split(r); got != (api.Split{}) || is {
			t.Errorf("%d: split %v, %v", r, got, is)
		}
	}
}

// P1.4: a small letter, and what Lower made small, stays so.
func TestSmallStaysSmall(t *testing.T) {
	u := New()
	small := 0
	for r := rune(-0x200); r < lastTried; r++ {
		low := u.Lower(r)
		if u.Cat(r) == api.CatLower {
			small++
			if low != r {
				t.Errorf("%x is small, but its small letter is %x", r, low)
			}
		}
		if u.Lower(low) != low {
			t.Errorf("%x: its small letter %x has another one", r, low)
		}
	}
	if small == 0 {
		t.Error("no small letter at all")
	}
}

// P1.4: what is split, and not Out, is paired to what it was.
func TestSplitIsPairedBack(t *testing.T) {
	u := New()
	paired := 0
	for r := rune(-0x200); r < lastTried; r++ {
		s, is := u.Split(r)
		if !is || s.Out {
			continue
		}
		paired++
		if got, is := u.Pair(s.One, s.Two); got != r || !is {
			t.Errorf("%x is split into %x and %x, but these make %x, %v", r, s.One, s.Two, got, is)
		}
	}
	if paired == 0 {
		t.Error("nothing is paired back")
	}
}

// P1.1: a table may be copied, and all that New makes tell the same.
func TestCopies(t *testing.T) {
	u, v := New(), New()
	w := u
	for r := rune(0); r < 0x500; r++ {
		if kinds(u, r) != kinds(v, r) || kinds(u, r) != kinds(w, r) || u.Lower(r) != w.Lower(r) || u.Class(r) != v.Class(r) {
			t.Errorf("%x: tables differ", r)
		}
	}
}
