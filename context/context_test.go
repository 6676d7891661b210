package context

import (
	"math"
	"slices"
	"testing"

	"pillarbox/api"
	"pillarbox/ucd"
)

// The names by which the tests tell needs.
const (
	nothing = api.NeedNothing
	met     = api.NeedMet
	missed  = api.NeedMissed
)

// odd are numbers that are no characters, some of them a turn of 16 or 32 bits away from ones that need something.
var odd = []rune{math.MinInt32, math.MinInt32 + 0xb7, -0x200c, -0x660, -0xb7, -1, 0xd800, 0xdfff, 0x100b7, 0x10375, 0x105f3, 0x10660, 0x106f0, 0x1200c, 0x1200d, 0x110000, math.MaxInt32}

// needy are all that need something.
var needy = []rune{
	0xb7, 0x375, 0x5f3, 0x5f4,
	0x660, 0x661, 0x662, 0x663, 0x664, 0x665, 0x666, 0x667, 0x668, 0x669,
	0x6f0, 0x6f1, 0x6f2, 0x6f3, 0x6f4, 0x6f5, 0x6f6, 0x6f7, 0x6f8, 0x6f9,
	0x200c, 0x200d, 0x30fb,
}

// check holds Need of l at a place against what it must be.
func check(t *testing.T, u ucd.Table, l []rune, at, want int) {
	t.Helper()
	if got := Need(u, l, at); got != want {
		t.Errorf("Need of %x at %d: got %d, want %d", l, at, got, want)
	}
}

// checkEach holds Need of l at each place, and All, against what Need must be there.
func checkEach(t *testing.T, u ucd.Table, l []rune, want ...int) {
	t.Helper()
	for at, w := range want {
		check(t, u, l, at, w)
	}
	if got := All(u, l); got == slices.Contains(want, missed) || len(l) != len(want) {
		t.Errorf("All of %x: got %v", l, got)
	}
}

// inTable tells the range of the tables that r is in, or a zero one.
func inTable(ranges []api.Range, r rune) api.Range {
	for _, row := range ranges {
		if row.Lo <= r && r <= row.Hi {
			return row
		}
	}
	return api.Range{}
}

// slow reads the chapter's words one by one, from the tables themselves.
type slow struct{ ranges []api.Range }

// around tells those ahead of a place and those behind, the nearest first.
func around(l []rune, at int) (ahead, behind []rune) {
	ahead, behind = slices.Clone(l[:at]), slices.Clone(l[at+1:])
	slices.Reverse(ahead)
	return ahead, behind
}

// first tells whether there is a first one, and whether it is so.
func first(l []rune, so func(rune) bool) bool { return len(l) > 0 && so(l[0]) }

// joinsBy tells whether the first one that is not Clear joins in one of these ways.
func (s slow) joinsBy(l []rune, ways ...int) bool {
	isClear := func(r rune) bool { return inTable(s.ranges, r).Join == api.JoinClear }
	return first(slices.DeleteFunc(slices.Clone(l), isClear), func(r rune) bool {
		return slices.Contains(ways, inTable(s.ranges, r).Join)
	})
}

// script tells who is of one of these scripts.
func (s slow) script(scripts ...int) func(rune) bool {
	return func(r rune) bool { return slices.Contains(scripts, inTable(s.ranges, r).Script) }
}

// from tells who is from one number to another.
func from(lo, hi rune) func(rune) bool { return func(r rune) bool { return lo <= r && r <= hi } }

// has tells whether a place that is there has what it needs; false if there is nothing that it needs.
func (s slow) has(l []rune, at int) (has, needs bool) {
	ahead, behind := around(l, at)
	nine := first(ahead, from(0x94d, 0x94d)) // the only one of Class 9, as TestNine shows
	switch r := l[at]; {
	case r == 0x200d:
		return nine, true
	case r == 0x200c:
		return nine || s.joinsBy(ahead, api.JoinBoth) && s.joinsBy(behind, api.JoinBoth, api.JoinRight), true
	case r == 0xb7:
		return first(ahead, from(0x6c, 0x6c)) && first(behind, from(0x6c, 0x6c)), true
	case r == 0x375:
		return first(behind, s.script(api.ScriptGreek)), true
	case r == 0x5f3, r == 0x5f4:
		return first(ahead, s.script(api.ScriptHebrew)), true
	case r == 0x30fb:
		return slices.ContainsFunc(l, s.script(api.ScriptKana, api.ScriptHan)), true
	case 0x660 <= r && r <= 0x669:
		return !slices.ContainsFunc(l, from(0x6f0, 0x6f9)), true
	case 0x6f0 <= r && r <= 0x6f9:
		return !slices.ContainsFunc(l, from(0x660, 0x669)), true
	}
	return false, false
}

// needs tells Need of each place of l.
func (s slow) needs(l []rune) []int {
	want := make([]int, len(l))
	for at := range l {
		switch has, needs := s.has(l, at); {
		case has:
			want[at] = met
		case needs:
			want[at] = missed
		}
	}
	return want
}

// eachRow hands on every row of up to n of these.
func eachRow(n int, of []rune, do func([]rune)) {
	var grow func([]rune)
	grow = func(l []rune) {
		do(l)
		if len(l) == n {
			return
		}
		for _, r := range of {
			grow(append(l, r))
		}
	}
	grow(make([]rune, 0, n))
}

// What slow.has leans on: one character alone has Class 9.
func TestNine(t *testing.T) {
	for _, row := range api.Classes() {
		for r := row.Lo; r <= row.Hi; r++ {
			if (row.Class+row.Step*int(r-row.Lo) == 9) != (r == 0x94d) {
				t.Errorf("%x", r)
			}
		}
	}
}

// P7.1, P7.2: no characters.
func TestNone(t *testing.T) {
	u := ucd.New()
	checkEach(t, u, nil)
	checkEach(t, u, []rune{})
	checkEach(t, u, []rune{0xb7, 0x200d}[:0]) // what stands in the spare room does not count
	for _, at := range []int{math.MinInt, -1, 0, 1, math.MaxInt} {
		check(t, u, nil, at, nothing)
	}
}

// P7.1: places ahead of the first one, and behind the last one, whoever stands there.
func TestNoSuchPlace(t *testing.T) {
	u := ucd.New()
	for _, r := range needy {
		l := []rune{r, r, r}
		for _, at := range []int{math.MinInt, math.MinInt + 1, -1 << 32, -4, -3, -2, -1, 3, 4, 1 << 32, 1<<32 + 1, math.MaxInt - 1, math.MaxInt} {
			check(t, u, l, at, nothing)
		}
		check(t, u, l[:2], 2, nothing) // it stands in the spare room
	}
}

// P7.1: the chapter's examples, and the ones next to them.
func TestMiddleDot(t *testing.T) {
	u := ucd.New()
	checkEach(t, u, []rune{0x6c, 0xb7, 0x6c}, nothing, met, nothing)
	checkEach(t, u, []rune{0x61, 0xb7, 0x6c}, nothing, missed, nothing)
	checkEach(t, u, []rune{0x6c, 0xb7, 0x61}, nothing, missed, nothing)
	checkEach(t, u, []rune{0x6c, 0xb7, 0x4c}, nothing, missed, nothing)
	checkEach(t, u, []rune{0x4c, 0xb7, 0x6c}, nothing, missed, nothing)
	checkEach(t, u, []rune{0x6d, 0xb7, 0x6c}, nothing, missed, nothing)
	checkEach(t, u, []rune{0x6c, 0xb7, 0x6b}, nothing, missed, nothing)
	checkEach(t, u, []rune{0xff4c, 0xb7, 0xff4c}, nothing, missed, nothing)
	checkEach(t, u, []rune{0x6c, 0x301, 0xb7, 0x6c}, nothing, nothing, missed, nothing)
	checkEach(t, u, []rune{0x6c, 0xb7, 0x301, 0x6c}, nothing, missed, nothing, nothing)
	checkEach(t, u, []rune{0xb7}, missed)
	checkEach(t, u, []rune{0xb7, 0x6c}, missed, nothing)
	checkEach(t, u, []rune{0x6c, 0xb7}, nothing, missed)
	checkEach(t, u, []rune{0x6c, 0xb7, 0xb7, 0x6c}, nothing, missed, missed, nothing)
	checkEach(t, u, []rune{0x6c, 0xb7, 0x6c, 0xb7, 0x6c}, nothing, met, nothing, met, nothing)
	checkEach(t, u, []rune{0x6c, 0xb7, 0x6c, 0xb7}, nothing, met, nothing, missed)
	checkEach(t, u, []rune{0x6c, 0xb7, 0x6c, 0x6c}[:2], nothing, missed) // the spare room does not count
}

// P7.1: the one behind is Greek; the sign itself is too.
func TestGreekSign(t *testing.T) {
	u := ucd.New()
	for _, r := range []rune{0x391, 0x3a1, 0x3a9, 0x3b1, 0x3c9} {
		checkEach(t, u, []rune{0x375, r}, met, nothing)
		checkEach(t, u, []rune{r, 0x375}, nothing, missed)
		checkEach(t, u, []rune{0x375, 'a', r}, missed, nothing, nothing)
		checkEach(t, u, []rune{0x375, 0x301, r}, missed, nothing, nothing)
	}
	for _, r := range []rune{'a', 0x301, 0x410, 0x5d0, 0x376, 0x3a2, 0x3aa, 0x3ca, 0x1f00} {
		checkEach(t, u, []rune{0x375, r}, missed, nothing)
	}
	checkEach(t, u, []rune{0x375}, missed)
	checkEach(t, u, []rune{0x375, 0x375}, met, missed)
	checkEach(t, u, []rune{0x375, 0x375, 0x3b1}, met, met, nothing)
	checkEach(t, u, []rune{0x3b1, 0x375, 0x3b2}, nothing, met, nothing)
}

// P7.1: the one ahead is Hebrew; so are its marks, and these signs themselves.
func TestHebrewSigns(t *testing.T) {
	u := ucd.New()
	for _, sign := range []rune{0x5f3, 0x5f4} {
		for _, r := range []rune{0x5d0, 0x5ea, 0x5b0, 0x5b9} {
			checkEach(t, u, []rune{r, sign}, nothing, met)
			checkEach(t, u, []rune{sign, r}, missed, nothing)
			checkEach(t, u, []rune{r, '-', sign}, nothing, nothing, missed)
			checkEach(t, u, []rune{r, sign, 'a'}, nothing, met, nothing)
		}
		for _, r := range []rune{'a', 0x301, 0x3b1, 0x627, 0x64b, 0x5ba, 0x5eb, 0x5f2, 0x5f5} {
			checkEach(t, u, []rune{r, sign}, nothing, missed)
		}
		checkEach(t, u, []rune{sign}, missed)
		checkEach(t, u, []rune{sign, sign}, missed, met)
		checkEach(t, u, []rune{0x5d0, sign, sign}, nothing, met, met)
	}
	checkEach(t, u, []rune{0x5d0, 0x5f3, 0x5f4}, nothing, met, met)
	checkEach(t, u, []rune{0x5f4, 0x5f3}, missed, met)
}

// P7.1: someone of Kana, or of Han, ahead, behind or far away.
func TestKanaMiddle(t *testing.T) {
	u := ucd.New()
	far := slices.Repeat([]rune{'a'}, 1000)
	for _, r := range []rune{0x3041, 0x3042, 0x3096, 0x30a1, 0x30ab, 0x30fa, 0x4e00, 0x4e01, 0x9fff} {
		checkEach(t, u, []rune{r, 0x30fb}, nothing, met)
		checkEach(t, u, []rune{0x30fb, r}, met, nothing)
		checkEach(t, u, []rune{0x30fb, 'a', 0x301, r}, met, nothing, nothing, nothing)
		checkEach(t, u, []rune{r, 'a', 'b', 0x30fb, 'c'}, nothing, nothing, nothing, met, nothing)
		checkEach(t, u, []rune{0x30fb, r, 0x30fb}, met, nothing, met)
		check(t, u, slices.Concat([]rune{0x30fb}, far, []rune{r}), 0, met)
		check(t, u, slices.Concat([]rune{r}, far, []rune{0x30fb}), len(far)+1, met)
		check(t, u, []rune{0x30fb, 'a', r}[:2], 0, missed) // it stands in the spare room
	}
	for _, r := range []rune{'a', 0x3002, 0x3040, 0x3097, 0x3099, 0x30a0, 0x30fb, 0x30fc, 0x4dff, 0xa000, 0xac00, 0xff71} {
		check(t, u, []rune{0x30fb, r}, 0, missed)
		check(t, u, []rune{r, 0x30fb}, 1, missed)
	}
	checkEach(t, u, []rune{0x30fb}, missed)
	checkEach(t, u, []rune{0x30fb, 0x30fb}, missed, missed)
}

// P7.1: digits of either kind of Arabic, alone, and both together.
func TestDigits(t *testing.T) {
	u := ucd.New()
	for a := rune(0x660); a <= 0x669; a++ {
		checkEach(t, u, []rune{a}, met)
		checkEach(t, u, []rune{'1', a, 0x627, a}, nothing, met, nothing, met)
		for e := rune(0x6f0); e <= 0x6f9; e++ {
			checkEach(t, u, []rune{e}, met)
			checkEach(t, u, []rune{'1', e, 0x627, e}, nothing, met, nothing, met)
			checkEach(t, u, []rune{a, e}, missed, missed)
			checkEach(t, u, []rune{e, a}, missed, missed)
			checkEach(t, u, []rune{'a', a, 'b', a, 'c', e}, nothing, missed, nothing, missed, nothing, missed)
			checkEach(t, u, []rune{e, 'b', e, 'c', a, 'd'}, missed, nothing, missed, nothing, missed, nothing)
			checkEach(t, u, []rune{a, e}[:1], met) // the other one stands in the spare room
		}
	}
	for _, r := range []rune{'0', '9', 0xb2, 0x65f, 0x66a, 0x6ef, 0x6fa, 0xff10} {
		checkEach(t, u, []rune{0x660, r}, met, nothing)
		checkEach(t, u, []rune{r, 0x6f9}, nothing, met)
	}
}

// P7.1: either joiner behind someone of Class 9, and of other Classes.
func TestJoinersBehindNine(t *testing.T) {
	u := ucd.New()
	for _, j := range []rune{0x200c, 0x200d} {
		checkEach(t, u, []rune{0x915, 0x94d, j, 0x937}, nothing, nothing, met, nothing)
		checkEach(t, u, []rune{0x915, 0x94d, j}, nothing, nothing, met)
		checkEach(t, u, []rune{0x94d, j}, nothing, met)
		checkEach(t, u, []rune{'a', 0x94d, j, 'b'}, nothing, nothing, met, nothing)
		checkEach(t, u, []rune{0x94d, j, j}, nothing, met, missed)
		checkEach(t, u, []rune{0x94d, 0x301, j}, nothing, nothing, missed)
		checkEach(t, u, []rune{0x94d, 0x915, j}, nothing, nothing, missed)
		checkEach(t, u, []rune{j, 0x94d}, missed, nothing)
		checkEach(t, u, []rune{j}, missed)
		for _, r := range []rune{'a', 0x93c, 0x3099, 0x5b0, 0x64b, 0x301, 0x323, 0x915, 0x94c, 0x94e} {
			checkEach(t, u, []rune{r, j, 0x915}, nothing, missed, nothing)
		}
	}
	checkEach(t, u, []rune{0x94d, 0x200c, 0x200d}, nothing, met, missed)
	checkEach(t, u, []rune{0x94d, 0x200d, 0x200c}, nothing, met, missed)
}

// P7.1: 200c between two that join, 200d not.
func TestJoinersBetween(t *testing.T) {
	u := ucd.New()
	both, right, none := []rune{0x628, 0x62a, 0x63a, 0x641, 0x64a}, []rune{0x627, 0x629, 0x632, 0x648}, []rune{'a', 0x660, 0x5d0, 0x200c, 0x200d}
	for _, c := range []struct {
		ahead, behind []rune
		want          int
	}{
		{both, both, met}, {both, right, met}, {both, none, missed},
		{right, both, missed}, {right, right, missed}, {right, none, missed},
		{none, both, missed}, {none, right, missed}, {none, none, missed},
	} {
		for _, a := range c.ahead {
			for _, b := range c.behind {
				check(t, u, []rune{a, 0x200c, b}, 1, c.want)
				check(t, u, []rune{a, 0x64b, 0x200c, b}, 2, c.want)
				check(t, u, []rune{a, 0x200c, 0x301, b}, 1, c.want)
				check(t, u, []rune{0x628, a, 0x300, 0x5b0, 0x3099, 0x200c, 0x93c, 0x652, b, 0x628}, 5, c.want)
				check(t, u, []rune{a, 0x200d, b}, 1, missed)
			}
		}
	}
}

// P7.1: 200c with none that is not Clear on one side, or on both.
func TestJoinersWithNoneOnOneSide(t *testing.T) {
	u := ucd.New()
	checkEach(t, u, []rune{0x628, 0x200c}, nothing, missed)
	checkEach(t, u, []rune{0x200c, 0x628}, missed, nothing)
	checkEach(t, u, []rune{0x628, 0x64b, 0x200c, 0x64b}, nothing, nothing, missed, nothing)
	checkEach(t, u, []rune{0x64b, 0x200c, 0x64b, 0x628}, nothing, missed, nothing, nothing)
	checkEach(t, u, []rune{0x64b, 0x200c, 0x64b}, nothing, missed, nothing)
	checkEach(t, u, []rune{0x628, 0x94d, 0x200c}, nothing, nothing, met) // Class 9 is enough
	check(t, u, []rune{0x628, 0x200c, 0x628}[:2], 1, missed)             // the one behind stands in the spare room
	check(t, u, []rune{0x628, 0x200c, 0x628}[1:], 0, missed)             // and here the one ahead is no more of the row
}

// P7.1: numbers that are no characters, at the place.
func TestOddAtThePlace(t *testing.T) {
	u := ucd.New()
	for _, r := range odd {
		checkEach(t, u, []rune{r}, nothing)
		checkEach(t, u, []rune{'l', r, 'l'}, nothing, nothing, nothing)
		checkEach(t, u, []rune{0x94d, r, 0x3b1}, nothing, nothing, nothing)
		if Needs(r) {
			t.Errorf("Needs of %x", r)
		}
	}
}

// P7.1: numbers that are no characters, around the place: they are of no Class and no script, and not Clear.
func TestOddAround(t *testing.T) {
	u := ucd.New()
	for _, r := range odd {
		checkEach(t, u, []rune{r, 0xb7, 'l'}, nothing, missed, nothing)
		checkEach(t, u, []rune{'l', 0xb7, r}, nothing, missed, nothing)
		checkEach(t, u, []rune{0x375, r}, missed, nothing)
		checkEach(t, u, []rune{r, 0x5f3}, nothing, missed)
		checkEach(t, u, []rune{r, 0x5f4}, nothing, missed)
		checkEach(t, u, []rune{r, 0x30fb, r}, nothing, missed, nothing)
		checkEach(t, u, []rune{r, 0x200c, r}, nothing, missed, nothing)
		checkEach(t, u, []rune{r, 0x200d, r}, nothing, missed, nothing)
		checkEach(t, u, []rune{0x628, r, 0x200c, 0x628}, nothing, nothing, missed, nothing)
		checkEach(t, u, []rune{0x628, 0x200c, r, 0x628}, nothing, missed, nothing, nothing)
		checkEach(t, u, []rune{r, 0x628, 0x200c, 0x628, r}, nothing, nothing, met, nothing, nothing)
		checkEach(t, u, []rune{r, 0x660, r}, nothing, met, nothing)
		checkEach(t, u, []rune{r, 0x6f0, r}, nothing, met, nothing)
	}
	checkEach(t, u, odd, make([]int, len(odd))...)
}

// P7.2: Needs of every number near the tables, and of some far from them.
func TestNeeds(t *testing.T) {
	one := func(r rune) {
		if got := Needs(r); got != slices.Contains(needy, r) {
			t.Errorf("Needs of %x: got %v", r, got)
		}
	}
	for r := rune(-0x1000); r < 0x10800; r++ {
		one(r)
	}
	for _, r := range odd {
		one(r)
	}
}

// P7.2: one that misses what it needs is enough, wherever it stands, and those that have it do not matter.
func TestAll(t *testing.T) {
	u := ucd.New()
	fine := []rune{'l', 0xb7, 'l', 0x375, 0x3b1, 0x5d0, 0x5f3, 0x5f4, 0x30fb, 0x3042, 0x94d, 0x200c, 0x94d, 0x200d, 0x628, 0x200c, 0x627, 0x661}
	if !All(u, fine) {
		t.Errorf("All of %x: got false", fine)
	}
	for at := range len(fine) + 1 {
		for _, r := range []rune{0xb7, 0x375, 0x5f3, 0x6f1, 0x200d} {
			if l := slices.Insert(slices.Clone(fine), at, r, 'a'); r != 0x5f3 && All(u, l) {
				t.Errorf("All of %x: got true", l)
			}
			if l := slices.Insert(slices.Clone(fine), at, 'a', r); r != 0x375 && All(u, l) {
				t.Errorf("All of %x: got true", l)
			}
		}
	}
}

// P7.1, P7.2: all short rows of what the rules speak of, held against the chapter's words.
func TestShortRows(t *testing.T) {
	u, s := ucd.New(), slow{api.Ranges()}
	some := []rune{'a', 'l', 0xb7, 0x301, 0x375, 0x3b1, 0x5b0, 0x5d0, 0x5f3, 0x5f4, 0x627, 0x628, 0x660, 0x669, 0x6f0, 0x6f9, 0x94d, 0x200c, 0x200d, 0x3042, 0x30fb, 0x4e00, -1}
	eachRow(3, some, func(l []rune) { checkEach(t, u, l, s.needs(l)...) })
	joining := []rune{'a', 0x301, 0x627, 0x628, 0x94d, 0x200c, 0x200d}
	eachRow(5, joining, func(l []rune) { checkEach(t, u, l, s.needs(l)...) })
}

// P7.1, P7.2: all numbers of the tables, and near them, next to each one that needs something.
func TestAllNumbers(t *testing.T) {
	u, s := ucd.New(), slow{api.Ranges()}
	near := []rune{'l', 0xb7, 0x375, 0x5f3, 0x5f4, 0x628, 0x660, 0x6f9, 0x94d, 0x200c, 0x200d, 0x30fb}
	for r := rune(-0x10); r < 0x10460; r++ {
		if 0x4f00 < r && r < 0x9f00 || 0xad00 < r && r < 0xd700 { // these are all alike
			continue
		}
		one := []rune{r}
		checkEach(t, u, one, s.needs(one)...)
		for _, n := range near {
			ahead, behind := []rune{n, r}, []rune{r, n}
			checkEach(t, u, ahead, s.needs(ahead)...)
			checkEach(t, u, behind, s.needs(behind)...)
		}
	}
}

// P7.3: what needs nothing may stand anywhere.
func TestNothingNeeded(t *testing.T) {
	u := ucd.New()
	free := []rune{0, ' ', '-', 'a', 'l', 0xb6, 0xb8, 0x301, 0x374, 0x376, 0x3b1, 0x5d0, 0x5f2, 0x5f5, 0x628, 0x65f, 0x66a, 0x6ef, 0x6fa, 0x94d, 0x200b, 0x200e, 0x3042, 0x30fa, 0x30fc, 0x4e00, 0x10ffff, -1}
	for _, r := range free {
		for _, a := range slices.Concat(needy, free) {
			for _, b := range slices.Concat(needy, free) {
				check(t, u, []rune{r, a, b}, 0, nothing)
				check(t, u, []rune{a, r, b}, 1, nothing)
				check(t, u, []rune{a, b, r}, 2, nothing)
			}
		}
	}
	eachRow(3, free, func(l []rune) {
		if !All(u, l) {
			t.Errorf("All of %x: got false", l)
		}
	})
}

// P7.3: a joiner may stand at neither end; but behind someone of Class 9 it has what P7.1 asks for, at the end too.
func TestJoinersAtTheEnds(t *testing.T) {
	u := ucd.New()
	some := []rune{'a', 0x301, 0x627, 0x628, 0x64b, 0x915, 0x94d, 0x200c, 0x200d, 0x3042, -1}
	for _, j := range []rune{0x200c, 0x200d} {
		eachRow(3, some, func(l []rune) {
			begins, ends := append([]rune{j}, l...), append(slices.Clone(l), j)
			check(t, u, begins, 0, missed)
			if All(u, begins) {
				t.Errorf("All of %x: got true", begins)
			}
			want := missed
			if n := len(l); n > 0 && l[n-1] == 0x94d {
				want = met
			}
			check(t, u, ends, len(l), want)
			if want == missed && All(u, ends) {
				t.Errorf("All of %x: got true", ends)
			}
		})
	}
}

// P7.1, P7.2: long rows, many of which need something of the whole row.
func TestLongRows(t *testing.T) {
	u := ucd.New()
	const many = 300000
	for _, c := range []struct {
		of, last rune
		want     bool
	}{
		{0x661, 'a', true},
		{0x661, 0x6f1, false},
		{0x6f1, 0x669, false},
		{0x30fb, 0x4e00, true},
		{0x30fb, 'a', false},
		{0x301, 0x200c, false},
		{0x94d, 0x200c, true},
	} {
		l := append(slices.Repeat([]rune{c.of}, many), c.last)
		if got := All(u, l); got != c.want {
			t.Errorf("%x ahead of %x: got %v", c.of, c.last, got)
		}
	}
	l := slices.Concat([]rune{0x628}, slices.Repeat([]rune{0x301}, many), []rune{0x200c}, slices.Repeat([]rune{0x64b}, many), []rune{0x627})
	check(t, u, l, many+1, met)
}

// W6: what is handed in stays as it is, and so does its spare room.
func TestNothingIsChanged(t *testing.T) {
	u := ucd.New()
	whole := slices.Concat([]rune{'l', 0xb7, 'l', 0x628, 0x64b, 0x200c, 0x301, 0x627, -1}, needy)
	kept := slices.Clone(whole)
	for n := range len(whole) + 1 {
		All(u, whole[:n])
		for at := range n {
			Need(u, whole[:n], at)
		}
	}
	if !slices.Equal(whole, kept) {
		t.Errorf("got %x, want %x", whole, kept)
	}
}
