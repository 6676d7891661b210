package fold

import (
	"math"
	"slices"
	"strings"
	"testing"

	"pillarbox/api"
	"pillarbox/norm"
	"pillarbox/ucd"
)

// odd are numbers that are no characters.
var odd = []rune{math.MinInt32, math.MinInt32 + 1, -0xff21, -0x10400, -0x41, -1, 0xd800, 0xdbff, 0xdfff, 0x110000, 0x7fffff21, math.MaxInt32 - 1, math.MaxInt32}

// mixed are characters that meet in all ways: wide, great and small ones of all scripts that have them, what is split and joined, marks of many Classes, others.
var mixed = []rune{
	'A', 'Z', 'a', 'c', 'i', 'K', '@', '[', 0, 0xa0, 0xb2, 0xc2, 0xc4, 0xc5, 0xd7, 0xde, 0xdf, 0xe4, 0x391, 0x3a9, 0x3c2, 0x410, 0x418, 0x419, 0x439, 0x5d0, 0x627,
	0x300, 0x301, 0x302, 0x306, 0x308, 0x30a, 0x323, 0x327, 0x93c, 0x3099, 0x915, 0x958, 0x1ea4, 0x1ea5, 0x212a, 0x212b, 0x30ab, 0x30ac, 0x1100, 0x1161, 0x11a8, 0xac00,
	0xfb01, 0xff00, 0xff01, 0xff21, 0xff23, 0xff3a, 0xff41, 0xff5e, 0xff5f, 0x10400, 0x10427, 0x10428, 0x10ffff,
}

// few are those of mixed of which longer rows are made.
var few = []rune{'A', 'a', 'c', 0xc2, 0x301, 0x302, 0x308, 0x323, 0x327, 0x212b, 0xff21, 0xff23, 0xff41}

// eachRow hands on every row of n out of some.
func eachRow(some []rune, n int, do func([]rune)) {
	row := make([]rune, n)
	var fill func(int)
	fill = func(at int) {
		if at == n {
			do(row)
			return
		}
		for _, r := range some {
			row[at] = r
			fill(at + 1)
		}
	}
	fill(0)
}

// eachMixed hands on all rows by which the program is held against the promises.
func eachMixed(do func([]rune)) {
	for n := range 4 {
		eachRow(mixed, n, do)
	}
	eachRow(few, 4, do)
}

// slow knows the small and the narrow ones by maps that are laid row by row.
type slow struct {
	narrow, small map[rune]rune
}

// newSlow counts the wide ones up with those that they are made of, and the great ones with the small ones.
func newSlow() slow {
	s := slow{map[rune]rune{}, map[rune]rune{}}
	wide := rune(0xff01)
	for one := rune('!'); one <= '~'; one++ {
		s.narrow[wide] = one
		wide++
	}
	for _, row := range api.Lowers() {
		for r := row.Lo; r <= row.Hi; r++ {
			s.small[r] = r + row.By
		}
	}
	return s
}

// change tells of each of l what by says, or itself.
func change(l []rune, by map[rune]rune) []rune {
	l = slices.Clone(l)
	for k, r := range l {
		if other, is := by[r]; is {
			l[k] = other
		}
	}
	return l
}

// fold tells what the characters l are folded to.
func (s slow) fold(u ucd.Table, l []rune) string {
	c, _ := norm.NFC(u, string(change(change(l, s.narrow), s.small)))
	return c
}

// want holds one answer against what it must be.
func want(t *testing.T, what string, l, got, want []rune) {
	t.Helper()
	if !slices.Equal(got, want) {
		t.Errorf("%s of %x: got %x, want %x", what, l, got, want)
	}
}

// P4.1: wide ones, the first and the last, what stands just outside, and what is made of others but not wide.
func TestWidth(t *testing.T) {
	u := ucd.New()
	for _, c := range []struct{ l, want []rune }{
		{nil, nil},
		{[]rune{}, nil},
		{[]rune{0xff01}, []rune{'!'}},
		{[]rune{0xff02}, []rune{'"'}},
		{[]rune{0xff5d}, []rune{'}'}},
		{[]rune{0xff5e}, []rune{'~'}},
		{[]rune{0xff00, 0xff5f}, []rune{0xff00, 0xff5f}},
		{[]rune{0xff01, 0xff5f, 'A'}, []rune{'!', 0xff5f, 'A'}},
		{[]rune{0xff21, 0xff3a, 0xff41, 0xff5a}, []rune{'A', 'Z', 'a', 'z'}}, // great ones stay great
		{[]rune{0xff10, 0xff19, 0xff0e, 0xff20}, []rune{'0', '9', '.', '@'}},
		{[]rune{0xff21, 0x308}, []rune{'A', 0x308}}, // nothing is joined
		{[]rune{0x308, 0xff21}, []rune{0x308, 'A'}},
		{[]rune{0xff21, 0xff21}, []rune{'A', 'A'}},
		{[]rune{0, ' ', '!', 'A', 'z', '~', 0x7f}, []rune{0, ' ', '!', 'A', 'z', '~', 0x7f}},
		{[]rune{0xa0, 0xb2, 0xc4, 0x212a, 0x212b, 0xfb01, 0xac01}, []rune{0xa0, 0xb2, 0xc4, 0x212a, 0x212b, 0xfb01, 0xac01}},
		{[]rune{0x3000, 0xff61, 0x1ff21, 0x10400, 0x10ffff}, []rune{0x3000, 0xff61, 0x1ff21, 0x10400, 0x10ffff}},
		{odd, odd},
	} {
		want(t, "Width", c.l, Width(u, c.l), c.want)
	}
}

// P4.1: great ones near and far of their small ones, the ends of rows, what stands just outside, and what is small already.
func TestLower(t *testing.T) {
	u := ucd.New()
	for _, c := range []struct{ l, want []rune }{
		{nil, nil},
		{[]rune{}, nil},
		{[]rune{'A', 'B', 'Z'}, []rune{'a', 'b', 'z'}},
		{[]rune{'@', '[', '`', '{', '0', 0, 0x7f}, []rune{'@', '[', '`', '{', '0', 0, 0x7f}},
		{[]rune{'a', 'z', 0xe4, 0x3b1, 0x430, 0x1ea5, 0x10428}, []rune{'a', 'z', 0xe4, 0x3b1, 0x430, 0x1ea5, 0x10428}},
		{[]rune{0xbf, 0xc0, 0xc4, 0xd6, 0xd7, 0xd8, 0xde, 0xdf}, []rune{0xbf, 0xe0, 0xe4, 0xf6, 0xd7, 0xf8, 0xfe, 0xdf}},
		{[]rune{0x390, 0x391, 0x3a1, 0x3a2, 0x3a3, 0x3a9, 0x3aa, 0x3c2}, []rune{0x390, 0x3b1, 0x3c1, 0x3a2, 0x3c3, 0x3c9, 0x3aa, 0x3c2}},
		{[]rune{0x40f, 0x410, 0x419, 0x42f, 0x430}, []rune{0x40f, 0x430, 0x439, 0x44f, 0x430}},
		{[]rune{0x1ea3, 0x1ea4, 0x1ea5}, []rune{0x1ea3, 0x1ea5, 0x1ea5}},
		{[]rune{0x2129, 0x212a, 0x212b, 0x212c}, []rune{0x2129, 'k', 0xe5, 0x212c}},
		{[]rune{0xff20, 0xff21, 0xff3a, 0xff3b}, []rune{0xff20, 0xff41, 0xff5a, 0xff3b}}, // wide ones stay wide
		{[]rune{0x103ff, 0x10400, 0x10427, 0x10428}, []rune{0x103ff, 0x10428, 0x1044f, 0x10428}},
		{[]rune{0x5d0, 0x627, 0x915, 0x30ab, 0x4e00, 0xac00}, []rune{0x5d0, 0x627, 0x915, 0x30ab, 0x4e00, 0xac00}},
		{[]rune{'A', 0x308, 0x301}, []rune{'a', 0x308, 0x301}}, // nothing is joined
		{[]rune{'A', 'A'}, []rune{'a', 'a'}},
		{odd, odd},
	} {
		want(t, "Lower", c.l, Lower(u, c.l), c.want)
	}
}

// P4.1: all numbers near the tables.
func TestStepsOfAll(t *testing.T) {
	u, s := ucd.New(), newSlow()
	var l []rune
	for r := rune(-0x20000); r < 0x20000; r++ {
		l = append(l, r)
	}
	l = append(l, odd...)
	width, lower := Width(u, l), Lower(u, l)
	if !slices.Equal(width, change(l, s.narrow)) {
		t.Error("Width of all is wrong")
	}
	if !slices.Equal(lower, change(l, s.small)) {
		t.Error("Lower of all is wrong")
	}
}

// P4.1: bytes, not characters, are made small.
func TestPlain(t *testing.T) {
	for s, want := range map[string]string{
		"":                            "",
		"AZ":                          "az",
		"az":                          "az",
		"Az[@\xc3\x84":                "az[@\xc3\x84",
		"@AZ[`az{":                    "@az[`az{",
		"MAIL from:<A@B>":             "mail from:<a@b>",
		"\x00A\x7f":                   "\x00a\x7f",
		"\u00c4\u212a\u0410\uff21":    "\u00c4\u212a\u0410\uff21",
		"A\xff\xc1\xdaZ\x80":          "a\xff\xc1\xdaz\x80", // c1 and da are A and Z with the highest bit
		"\xc3A\x84":                   "\xc3a\x84",
		"A\u0308":                     "a\u0308",
		strings.Repeat("XyZ\xe0", 99): strings.Repeat("xyz\xe0", 99),
	} {
		if got := Plain(s); got != want {
			t.Errorf("Plain of %+q: got %+q, want %+q", s, got, want)
		}
	}
}

// P4.1: every byte, alone and among others.
func TestPlainOfAll(t *testing.T) {
	for b := range 256 {
		small := byte(b)
		if at := strings.IndexByte("ABCDEFGHIJKLMNOPQRSTUVWXYZ", small); at >= 0 {
			small = "abcdefghijklmnopqrstuvwxyz"[at]
		}
		for _, ahead := range []string{"", "q", "\xc3"} {
			s := ahead + string([]byte{byte(b)}) + ahead
			if got := Plain(s); got != ahead+string([]byte{small})+ahead {
				t.Errorf("Plain of % x: got % x", s, got)
			}
		}
	}
}

// P4.2: strings, and what they are folded to.
func TestFold(t *testing.T) {
	u := ucd.New()
	for s, want := range map[string]string{
		"":                             "",
		"\x00":                         "\x00",
		"abc":                          "abc",
		"ABC-9@[`{":                    "abc-9@[`{",
		"B\u00dcCHER":                  "b\u00fccher",
		"BU\u0308CHER":                 "b\u00fccher",
		"\uff21\u0308":                 "\u00e4", // the chapter's example: narrow, then small, then joined
		"\uff21\u0323\u0308":           "\u00e4\u0323",
		"\uff41\u0308\u0323":           "\u00e4\u0323",
		"\uff21\u0302\u0301":           "\u1ea5",
		"\uff23\u0327\uff01\uff5e":     "\u00e7!~",
		"\uff00\uff5f":                 "\uff00\uff5f",
		"\uff2b\u212a\u212b":           "kk\u00e5",
		"\u1ea4\u00c2\u0301":           "\u1ea5\u1ea5",
		"\u0308\uff21":                 "\u0308a", // marks ahead of all else are ordered, and join nothing
		"\u0308\u0323A":                "\u0323\u0308a",
		"\u00c4\u0410\u0391\U00010400": "\u00e4\u0430\u03b1\U00010428",
		"\u0418\u0306\u0419":           "\u0439\u0439",
		"\u0958":                       "\u0915\u093c",
		"\u30ab\u3099":                 "\u30ac",
		"\u1100\u1161\u11a8":           "\uac01",
		"\ufb01\u00b2\u00a0":           "\ufb01\u00b2\u00a0", // only alike, but not wide
		"\u00df\u03c2\u03a3":           "\u00df\u03c2\u03c3", // small already
		"\U0010ffff\ufffd":             "\U0010ffff\ufffd",
	} {
		if got, is := Fold(u, s); got != want || !is {
			t.Errorf("Fold of %+q: got %+q, %v, want %+q", s, got, is, want)
		}
		if !Alike(u, s, want) || !Alike(u, want, s) || !Alike(u, s, s) {
			t.Errorf("%+q and %+q are not alike", s, want)
		}
	}
}

// P4.2: what is alike, and what is near to it, both ways round.
func TestAlike(t *testing.T) {
	u := ucd.New()
	for _, c := range []struct {
		a, b string
		want bool
	}{
		{"", "", true},
		{"", "a", false},
		{"", "\x00", false},
		{"a", "A", true},
		{"a", "\uff21", true},
		{"A", "\uff41", true},
		{"a", "b", false},
		{"a", "aa", false},
		{"a", "\u00e4", false},
		{"a", "\u0430", false}, // of other scripts, though they look the same
		{"\u00c4", "a\u0308", true},
		{"\uff21\u0308", "\u00e4", true},
		{"a\u0323\u0308", "A\u0308\u0323", true},
		{"a\u0301\u0308", "a\u0308\u0301", false}, // marks of one Class keep their order
		{"k", "\u212a", true},
		{"\u212b", "A\u030a", true},
		{"\u0410", "\u0430", true},
		{"\U00010400", "\U00010428", true},
		{"fi", "\ufb01", false},
		{"2", "\u00b2", false},
		{"2", "\uff12", true},
		{"ss", "\u00df", false},
		{"\u03c3", "\u03c2", false},
		{"@", "`", false},
		{"[", "{", false},
	} {
		if Alike(u, c.a, c.b) != c.want || Alike(u, c.b, c.a) != c.want {
			t.Errorf("%+q and %+q: want %v", c.a, c.b, c.want)
		}
	}
}

// P4.2: what is not all characters is folded to nothing, and is like nothing, on either side.
func TestWrongStrings(t *testing.T) {
	u := ucd.New()
	for _, wrong := range []string{"\xff", "\x80", "\xc3", "\xc1\x81", "\xe0\x80\x80", "\xed\xa0\x80", "\xed\xbf\xbf", "\xf4\x90\x80\x80", "\xef\xbc"} {
		for _, s := range []string{wrong, "a" + wrong, "\u00e4" + wrong, wrong + "a", wrong + "\u0308", "\uff21" + wrong + "\u0308", strings.Repeat("\u00c4", 100) + wrong} {
			if got, is := Fold(u, s); got != "" || is {
				t.Errorf("Fold of % x: got %+q, %v, want nothing", s, got, is)
			}
			for _, other := range []string{s, "", "a", "\u00e4", "\ufffd", "\xfe"} {
				if Alike(u, s, other) || Alike(u, other, s) {
					t.Errorf("% x and % x are alike", s, other)
				}
			}
		}
	}
}

// P4.2, P4.4: one string is folded as slow tells; it, its forms and what is folded are folded alike.
func checkFold(t *testing.T, u ucd.Table, s slow, l []rune) {
	t.Helper()
	text, must := string(l), s.fold(u, l)
	c, _ := norm.NFC(u, text)
	d, _ := norm.NFD(u, text)
	for _, x := range []string{text, c, d, must} {
		if got, is := Fold(u, x); got != must || !is {
			t.Fatalf("Fold of %+q, by way of %+q: got %+q, %v, want %+q", text, x, got, is, must)
		}
	}
}

// P4.2, P4.4: many strings.
func TestFoldOfMixed(t *testing.T) {
	u, s := ucd.New(), newSlow()
	eachMixed(func(l []rune) { checkFold(t, u, s, l) })
}

// P4.2, P4.4: every character near the tables, alone and ahead of a mark.
func TestFoldOfAll(t *testing.T) {
	u, s := ucd.New(), newSlow()
	for r := rune(0); r < 0x11000; r++ {
		if r < 0xd800 || 0xdfff < r {
			checkFold(t, u, s, []rune{r})
			checkFold(t, u, s, []rune{r, 0x308})
		}
	}
}

// P4.4: Alike holds each string against its forms and what it is folded to.
func TestAlikeForms(t *testing.T) {
	u := ucd.New()
	eachRow(mixed, 2, func(l []rune) {
		text := string(l)
		c, _ := norm.NFC(u, text)
		d, _ := norm.NFD(u, text)
		f, _ := Fold(u, text)
		if !Alike(u, text, c) || !Alike(u, d, text) || !Alike(u, c, d) || !Alike(u, text, f) {
			t.Errorf("%+q and its forms %+q, %+q, %+q are not alike", text, c, d, f)
		}
	})
}

// P4.3: what is handed in, spare room too, is not changed, and shares nothing with what is answered.
func TestNewMemory(t *testing.T) {
	u := ucd.New()
	fill := func(l []rune, r rune) {
		l = l[:cap(l)]
		for k := range l {
			l[k] = r
		}
	}
	for name, step := range map[string]func(ucd.Table, []rune) []rune{"Width": Width, "Lower": Lower} {
		for _, l := range [][]rune{{}, {'a'}, {'a', 'b'}, {'A'}, {0xff21}, {0xff41, 'Z', 0x308, 'z'}, odd} {
			room := make([]rune, 2*len(l)+8)
			fill(room, 'X')
			arg := room[:len(l)]
			copy(arg, l)
			before := slices.Clone(room)
			first := step(u, arg)
			kept := slices.Clone(first)
			second := step(u, arg)
			fill(first, 'y')
			if !slices.Equal(room, before) {
				t.Errorf("%s of %x: the argument, or its spare room, changed", name, l)
			}
			if !slices.Equal(second, kept) {
				t.Errorf("%s of %x: two answers share memory", name, l)
			}
			fill(room, 'z')
			if !slices.Equal(second, kept) {
				t.Errorf("%s of %x: the answer shares memory with the argument", name, l)
			}
		}
	}
}

// P4.2: long strings end in good time.
func TestLong(t *testing.T) {
	u := ucd.New()
	const n = 100000
	if got, is := Fold(u, strings.Repeat("\uff21\u0323\u0308", n)); got != strings.Repeat("\u00e4\u0323", n) || !is {
		t.Error("a long string is folded wrong")
	}
	if !Alike(u, strings.Repeat("A\u0308", n), strings.Repeat("\u00e4", n)) {
		t.Error("long strings are not alike")
	}
	if Plain(strings.Repeat("A\xc1", n)) != strings.Repeat("a\xc1", n) {
		t.Error("a long string is not plain")
	}
}
