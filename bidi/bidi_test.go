package bidi

import (
	"math"
	"slices"
	"testing"

	"pillarbox/api"
	"pillarbox/ucd"
)

// The names by which the tests tell directions.
const (
	other  = api.BidiOther
	left   = api.BidiLeft
	right  = api.BidiRight
	arabic = api.BidiArabic
	number = api.BidiNumber
	arNum  = api.BidiArNum
	mark   = api.BidiMark
	sign   = api.BidiSign
)

// odd are numbers that are no characters.
var odd = []rune{math.MinInt32, math.MinInt32 + 1, -0x5d0, -0x61, -1, 0xd800, 0xdbff, 0xdc00, 0xdfff, 0x110000, 0x10005d0, math.MaxInt32 - 1, math.MaxInt32}

// samples are characters of each direction, of several scripts and both ends of their rows.
var samples = [directions][]rune{
	other:  {' ', '!', ',', ':', '@', '_', '~', 0, 0x1f, 0x7f, 0xa0, 0xb7, 0xd7, 0x375, 0x200c, 0x200d, 0x3002, 0x30fb, 0xff0e, 0x80, 0x305, 0x10450, 0x10ffff},
	left:   {'a', 'z', 'A', 'Z', 0xc0, 0xe4, 0xff, 0x391, 0x3c9, 0x410, 0x44f, 0x915, 0x939, 0x958, 0x1100, 0x1ea5, 0x212a, 0x3042, 0x30ab, 0x4e00, 0x9fff, 0xac00, 0xd7a3, 0xfb01, 0xff21, 0xff5a, 0x10400, 0x1044f},
	right:  {0x5d0, 0x5d1, 0x5ea, 0x5f3, 0x5f4},
	arabic: {0x627, 0x628, 0x63a, 0x641, 0x648, 0x64a},
	number: {'0', '1', '9', 0xb2, 0xb3, 0x6f0, 0x6f9, 0xff10, 0xff19},
	arNum:  {0x660, 0x661, 0x669},
	mark:   {0x300, 0x301, 0x304, 0x308, 0x323, 0x327, 0x5b0, 0x5b9, 0x64b, 0x652, 0x93c, 0x94d, 0x3099},
	sign:   {'-', '.', '/'},
}

// eachRow hands on every row of n directions.
func eachRow(n int, do func([]int)) {
	row := make([]int, n)
	var fill func(int)
	fill = func(at int) {
		if at == n {
			do(row)
			return
		}
		for d := range directions {
			row[at] = d
			fill(at + 1)
		}
	}
	fill(0)
}

// eachShort hands on every short row of directions.
func eachShort(do func([]int)) {
	for n := range 6 {
		eachRow(n, do)
	}
}

// written tells characters of these directions, others of them at other places.
func written(row []int) []rune {
	var l []rune
	for k, d := range row {
		some := samples[d]
		l = append(l, some[(k*5+len(row)+row[0]*3)%len(some)])
	}
	return l
}

// slowHas looks for each of three directions by itself.
func slowHas(row []int) bool {
	return slices.Contains(row, right) || slices.Contains(row, arabic) || slices.Contains(row, arNum)
}

// slowSide looks up what the first one asks for.
func slowSide(row []int) int {
	if len(row) == 0 {
		return other
	}
	return [directions]int{left: left, right: right, arabic: right}[row[0]]
}

// slowEnd takes marks off the end, one by one.
func slowEnd(row []int) int {
	if len(row) == 0 {
		return other
	}
	last := len(row) - 1
	if row[last] == mark {
		return slowEnd(row[:last])
	}
	return row[last]
}

// allIn tells whether each of row is one of may.
func allIn(row []int, may ...int) bool {
	for _, d := range row {
		if !slices.Contains(may, d) {
			return false
		}
	}
	return true
}

// slowRule goes by the chapter's lists of what may be.
func slowRule(row []int) bool {
	if len(row) == 0 {
		return true
	}
	end := []int{slowEnd(row)}
	switch slowSide(row) {
	case right:
		both := slices.Contains(row, number) && slices.Contains(row, arNum)
		return allIn(row, right, arabic, arNum, number, sign, other, mark) && allIn(end, right, arabic, number, arNum) && !both
	case left:
		return allIn(row, left, number, sign, other, mark) && allIn(end, left, number)
	}
	return false
}

// check holds all four answers of l against what they must be.
func check(t *testing.T, u ucd.Table, l []rune, has bool, side, end int, rule bool) {
	t.Helper()
	if got := Has(u, l); got != has {
		t.Errorf("Has of %x: got %v", l, got)
	}
	if got := Side(u, l); got != side {
		t.Errorf("Side of %x: got %d, want %d", l, got, side)
	}
	if got := End(u, l); got != end {
		t.Errorf("End of %x: got %d, want %d", l, got, end)
	}
	if got := Rule(u, l); got != rule {
		t.Errorf("Rule of %x: got %v", l, got)
	}
}

// P6.1, P6.2: no characters.
func TestNone(t *testing.T) {
	u := ucd.New()
	check(t, u, nil, false, other, other, true)
	check(t, u, []rune{}, false, other, other, true)
	check(t, u, []rune{0x5d0, 'a'}[:0], false, other, other, true) // what stands in the spare room does not count
}

// P6.1, P6.2: one character of each direction.
func TestOne(t *testing.T) {
	u := ucd.New()
	for d, c := range [directions]struct {
		has       bool
		side, end int
		rule      bool
	}{
		other:  {false, other, other, false},
		left:   {false, left, left, true},
		right:  {true, right, right, true},
		arabic: {true, right, arabic, true},
		number: {false, other, number, false},
		arNum:  {true, other, arNum, false},
		mark:   {false, other, other, false},
		sign:   {false, other, sign, false},
	} {
		for _, r := range samples[d] {
			check(t, u, []rune{r}, c.has, c.side, c.end, c.rule)
		}
	}
}

// P6.1: is there one that is Right, Arabic or ArNum, wherever it stands?
func TestHas(t *testing.T) {
	u := ucd.New()
	for _, c := range []struct {
		l    []rune
		want bool
	}{
		{[]rune("abc"), false},
		{[]rune("a-1 !"), false},
		{[]rune{'a', 0x301, 0x5b0, 0x64b}, false}, // marks of Hebrew and Arabic are marks
		{[]rune{0x6f0, 0x6f9, 'a'}, false},        // these digits of Arabic's script are Numbers
		{[]rune{'a', 'b', 0x5d0}, true},
		{[]rune{0x5d0, 'a', 'b'}, true},
		{[]rune{'a', 0x627, 'b'}, true},
		{[]rune{'a', 0x661}, true},
		{[]rune{0x661, 'a'}, true},
		{[]rune{0x301, '-', 0x5f3}, true},
		{odd, false},
	} {
		if got := Has(u, c.l); got != c.want {
			t.Errorf("Has of %x: got %v", c.l, got)
		}
	}
}

// P6.1: the first one alone tells the Side.
func TestSide(t *testing.T) {
	u := ucd.New()
	for _, c := range []struct {
		l    []rune
		want int
	}{
		{[]rune{'a', 0x5d0}, left},
		{[]rune{0x4e00, 0x627}, left},
		{[]rune{0x5d0, 'a'}, right},
		{[]rune{0x627, 'a'}, right},
		{[]rune{0x628, 0x5d0}, right},
		{[]rune{'1', 'a'}, other},
		{[]rune{'1', 0x5d0}, other},
		{[]rune{0x661, 0x627}, other},
		{[]rune{0x301, 'a'}, other},
		{[]rune{0x5b0, 0x5d0}, other},
		{[]rune{'-', 'a'}, other},
		{[]rune{'!', 0x5d0}, other},
		{[]rune{-1, 'a'}, other},
		{[]rune{0xd800, 0x5d0}, other},
	} {
		if got := Side(u, c.l); got != c.want {
			t.Errorf("Side of %x: got %d, want %d", c.l, got, c.want)
		}
	}
}

// P6.1: the last one that is no Mark tells the End.
func TestEnd(t *testing.T) {
	u := ucd.New()
	for _, c := range []struct {
		l    []rune
		want int
	}{
		{[]rune{0x5d0, 'a'}, left},
		{[]rune{'a', 0x5d0}, right},
		{[]rune{'a', 0x627}, arabic},
		{[]rune{'a', '1'}, number},
		{[]rune{'a', 0x6f1}, number},
		{[]rune{'a', 0x661}, arNum},
		{[]rune{'a', '-'}, sign},
		{[]rune{'a', '!'}, other},
		{[]rune{'a', '1', 0x301}, number},
		{[]rune{'a', '-', 0x301, 0x323, 0x5b0}, sign},
		{[]rune{'a', 0x301, '1'}, number},
		{[]rune{0x5d0, 0x5b0, 0x5b1}, right},
		{[]rune{'a', 0x200d, 0x94d}, other},
		{[]rune{'a', 0x305}, other}, // no character, so no mark
		{[]rune{'a', -1}, other},
		{[]rune{'a', 0x110000, 0x301}, other},
		{[]rune{0x301, 0x301, 0x301}, other},
	} {
		if got := End(u, c.l); got != c.want {
			t.Errorf("End of %x: got %d, want %d", c.l, got, c.want)
		}
	}
}

// P6.2: rows that have the rule, and some that are near to them and do not.
func TestRule(t *testing.T) {
	u := ucd.New()
	for _, c := range []struct {
		l    []rune
		want bool
	}{
		// The chapter's.
		{[]rune{0x5d0, '1'}, true},
		{[]rune{0x5d0, 'a'}, false},
		// The side Left.
		{[]rune("a1"), true},
		{[]rune("a-b"), true},
		{[]rune("a!b c"), true},
		{[]rune{'b', 0xfc, 'c', 'h', 'e', 'r'}, true},
		{[]rune{'a', 0x6f1}, true},
		{[]rune{'a', 0x301, 'b', '2', 0x301, 0x323}, true},
		{[]rune{'a', -1, 0xd800, 'b'}, true}, // what is no character is Other
		{[]rune("a-"), false},
		{[]rune("a!"), false},
		{[]rune{'a', '-', 0x301}, false},
		{[]rune{'a', '!', 0x301, 0x301}, false},
		{[]rune{'a', math.MaxInt32}, false},
		{[]rune{'a', 0x5d0}, false},
		{[]rune{'a', 0x5d0, 'b'}, false},
		{[]rune{'a', 0x627, 'b'}, false},
		{[]rune{'a', 0x661, 'b'}, false},
		{[]rune{'a', 0x661}, false},
		// The side Right.
		{[]rune{0x5d0, 0x5d1, 0x5d2}, true},
		{[]rune{0x5d0, 0x627}, true},
		{[]rune{0x627, 0x5d0}, true},
		{[]rune{0x627, 0x628, '1'}, true},
		{[]rune{0x627, 0x628, 0x661}, true},
		{[]rune{0x5d0, 0x661}, true},
		{[]rune{0x5d0, '-', '!', 0x5b0, 0x5d1}, true},
		{[]rune{0x5d0, '1', 0x5b0, 0x5b1}, true},
		{[]rune{0x627, 0x661, 0x64b}, true},
		{[]rune{0x5d0, -1, 0x110000, 0x5d1}, true},
		{[]rune{0x5d0, '-'}, false},
		{[]rune{0x5d0, '!'}, false},
		{[]rune{0x627, '-', 0x64b}, false},
		{[]rune{0x627, ' ', 0x64b, 0x64c}, false},
		{[]rune{0x5d0, math.MinInt32}, false},
		{[]rune{0x5d0, 'a', 0x5d1}, false},
		{[]rune{0x627, 0x4e00, 0x628}, false},
		{[]rune{0x627, 'a'}, false},
		// A Number and an ArNum, either one first, next to each other or not.
		{[]rune{0x627, '1', 0x661}, false},
		{[]rune{0x627, 0x661, '1'}, false},
		{[]rune{0x5d0, 0x661, 0x5d1, 0x6f1, 0x5d2}, false},
		{[]rune{0x5d0, '1', '-', 0x5d1, 0x661}, false},
		{[]rune{0x5d0, '1', 0x6f1, 0xb2}, true},
		{[]rune{0x5d0, 0x660, 0x669}, true},
		// Neither side.
		{[]rune("1a"), false},
		{[]rune("-a"), false},
		{[]rune("!a"), false},
		{[]rune{'1', 0x5d0}, false},
		{[]rune{0x661, 0x627}, false},
		{[]rune{0x301, 'a'}, false},
		{[]rune{0x5b0, 0x5d0}, false},
		{[]rune{0x301}, false},
		{[]rune{0x301, 0x323, 0x5b0}, false},
		{[]rune{-1, 'a'}, false},
		{[]rune{0xdfff, 0x5d0}, false},
		{odd, false},
	} {
		if got := Rule(u, c.l); got != c.want {
			t.Errorf("Rule of %x: got %v", c.l, got)
		}
	}
}

// P6.1, P6.2: all short rows of directions, held against the chapter's words.
func TestShortRows(t *testing.T) {
	u := ucd.New()
	eachShort(func(row []int) {
		check(t, u, written(row), slowHas(row), slowSide(row), slowEnd(row), slowRule(row))
	})
}

// tableBidi looks for r in each row of the tables.
func tableBidi(ranges []api.Range, r rune) int {
	for _, row := range ranges {
		if row.Lo <= r && r <= row.Hi {
			return row.Bidi
		}
	}
	return other
}

// P6.1, P6.2: all numbers near the tables, alone, behind and ahead of one of either side.
func TestAllNumbers(t *testing.T) {
	u, ranges := ucd.New(), api.Ranges()
	hold := func(l []rune, row ...int) {
		check(t, u, l, slowHas(row), slowSide(row), slowEnd(row), slowRule(row))
	}
	one := func(r rune) {
		d := tableBidi(ranges, r)
		hold([]rune{r}, d)
		hold([]rune{'a', r}, left, d)
		hold([]rune{0x5d0, r}, right, d)
		hold([]rune{r, 'a'}, d, left)
		hold([]rune{r, 0x5d0}, d, right)
	}
	for r := rune(-0x1000); r < 0x10500; r++ {
		one(r)
	}
	for _, r := range odd {
		one(r)
	}
}

// P6.3: marks at the end, one and several, do not matter; but without anything ahead of them they are of no Side, as P6.2 says.
func TestMarksAtTheEnd(t *testing.T) {
	u := ucd.New()
	eachShort(func(row []int) {
		l := written(row)
		rule := Rule(u, l) && len(l) > 0
		for n := range samples[mark] {
			marked := append(slices.Clone(l), samples[mark][:n+1]...)
			check(t, u, marked, Has(u, l), Side(u, l), End(u, l), rule)
		}
	})
}

// P6.3: what has the rule has no Left and Right, or Arabic, together.
func TestNotTogether(t *testing.T) {
	u := ucd.New()
	eachShort(func(row []int) {
		turned := slices.Contains(row, right) || slices.Contains(row, arabic)
		if slices.Contains(row, left) && turned && Rule(u, written(row)) {
			t.Errorf("Rule of %x: got true", written(row))
		}
	})
}

// P6.1, P6.2: rows of many characters, with what matters at one place.
func TestLongRows(t *testing.T) {
	u := ucd.New()
	const many = 100000
	for _, c := range []struct {
		of, odd   rune
		at        int
		has, rule bool
	}{
		{'a', 'a', 0, false, true},
		{'a', 0x5d0, many / 2, true, false},
		{'a', 0x661, many - 2, true, false},
		{0x5d0, 0x5d0, 0, true, true},
		{0x5d0, 'a', many / 2, true, false},
		{0x661, 0x5d0, 0, true, true},
		{0x301, 'a', 0, false, true},
		{0x301, '-', 0, false, false},
	} {
		l := slices.Repeat([]rune{c.of}, many)
		l[c.at] = c.odd
		if Has(u, l) != c.has || Rule(u, l) != c.rule {
			t.Errorf("%x with %x at %d: got %v, %v", c.of, c.odd, c.at, Has(u, l), Rule(u, l))
		}
	}
}

// What is handed in stays as it is, and so does its spare room.
func TestNothingIsChanged(t *testing.T) {
	u := ucd.New()
	whole := []rune{0x5d0, '1', 0x301, 'a', -1, 0x661}
	kept := slices.Clone(whole)
	for n := range whole {
		Has(u, whole[:n])
		Rule(u, whole[:n])
		Side(u, whole[:n])
		End(u, whole[:n])
	}
	if !slices.Equal(whole, kept) {
		t.Errorf("got %x, want %x", whole, kept)
	}
}
