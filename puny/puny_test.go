package puny

import (
	"math"
	"slices"
	"strings"
	"testing"
	"time"
)

const most = math.MaxInt32

// odd are numbers that are no characters.
var odd = []rune{math.MinInt32, math.MinInt32 + 1, -0x10ffff, -0x80, -1, 0xd800, 0xdbff, 0xdc00, 0xdfff, 0x110000, 0x1000061, math.MaxInt32 - 1, math.MaxInt32}

// samples are characters and how they are written.
var samples = []struct {
	l []rune
	s string
}{
	{nil, ""},
	// The chapter's.
	{[]rune{'b', 0xfc, 'c', 'h', 'e', 'r'}, "bcher-kva"},
	{[]rune{'a', 'b'}, "ab-"},
	// Plain ones alone, - among them, and the ends of what is plain.
	{[]rune{'a'}, "a-"},
	{[]rune{'A', 'b', '9'}, "Ab9-"},
	{[]rune{'-'}, "--"},
	{[]rune{'-', '-'}, "---"},
	{[]rune{'-', 'a', '-'}, "-a--"},
	{[]rune{'a', '-', 'b'}, "a-b-"},
	{[]rune("-> $1.00 <-"), "-> $1.00 <--"},
	{[]rune{0, 0x7f}, "\x00\x7f-"},
	// None that are plain.
	{[]rune{0x80}, "a"},
	{[]rune{0x81}, "ba"},
	{[]rune{0xa2}, "8a"},
	{[]rune{0xa3}, "9a"},
	{[]rune{0xa4}, "bba"},
	{[]rune{0xfc}, "tda"},
	{[]rune{0x10ffff}, "dn32g"},
	{[]rune{0x80, 0x80, 0x80}, "aaa"},
	{[]rune{0x80, 0x81, 0x82, 0x83}, "acde"},
	{[]rune{0x83, 0x82, 0x81, 0x80}, "abcd"},
	{[]rune{0x4ed6, 0x4eec, 0x4e3a, 0x4ec0, 0x4e48, 0x4e0d, 0x8bf4, 0x4e2d, 0x6587}, "ihqwcrb4cv8a8dqg056pqjye"},
	{[]rune{0x305d, 0x306e, 0x30b9, 0x30d4, 0x30fc, 0x30c9, 0x3067}, "d9juau41awczczp"},
	{[]rune{0x644, 0x64a, 0x647, 0x645, 0x627, 0x628, 0x62a, 0x643, 0x644, 0x645, 0x648, 0x634, 0x639, 0x631, 0x628, 0x64a, 0x61f}, "egbpdaj6bu4bxfgehfvwxn"},
	// Both, and some several times.
	{[]rune{'b', 0xfc}, "b-eha"},
	{[]rune{0xfc, 'b'}, "b-dha"},
	{[]rune{'-', 0xfc}, "--eha"},
	{[]rune{0xfc, 0xfc, 0xfc, 'a', 0xfc}, "a-dhaaab"},
	{[]rune{0x1f600, 'a', 0x10400, 0x10ffff}, "a-fq2ij901d7ju7j"},
	{[]rune{0, 0x7f, 0x80, 0xd7ff, 0xe000, 0x10ffff}, "\x00\x7f-ca2871tzmic0063d"},
	{[]rune{'3', 0x5e74, 'B', 0x7d44, 0x91d1, 0x516b, 0x5148, 0x751f}, "3B-ww4c5e180e575a65lsy2b"},
	{[]rune{'P', 'r', 'o', 0x10d, 'p', 'r', 'o', 's', 't', 0x11b, 'n', 'e', 'm', 'l', 'u', 'v', 0xed, 0x10d, 'e', 's', 'k', 'y'}, "Proprostnemluvesky-uyb24dma41a"},
}

func wantString(t *testing.T, l []rune, want string, is bool) {
	t.Helper()
	if got, ok := Encode(l); got != want || ok != is {
		t.Errorf("Encode of %x (%d): got %.99q %v, want %.99q %v", l[:min(len(l), 20)], len(l), got, ok, want, is)
	}
}

func wantRunes(t *testing.T, s string, want []rune, is bool) {
	t.Helper()
	if got, ok := Decode(s); !slices.Equal(got, want) || ok != is {
		t.Errorf("Decode of %.99q: got %x (%d) %v, want %x (%d) %v", s, got[:min(len(got), 20)], len(got), ok, want[:min(len(want), 20)], len(want), is)
	}
}

// small makes the digits of s small, not the plain characters ahead of them.
func small(s string) string {
	cut := max(strings.LastIndexByte(s, '-'), 0)
	return s[:cut] + strings.ToLower(s[cut:])
}

// eachRow hands on every row of n out of some.
func eachRow[E any](some []E, n int, do func([]E)) {
	row := make([]E, n)
	var fill func(int)
	fill = func(at int) {
		if at == n {
			do(row)
			return
		}
		for _, e := range some {
			row[at] = e
			fill(at + 1)
		}
	}
	fill(0)
}

// P5.1: 0, 35, 36 and -1 among all near them, and numbers that come to a digit's when they are cut to a byte.
func TestDigit(t *testing.T) {
	for n := -600; n < 600; n++ {
		var want byte
		is := 0 <= n && n <= 35
		if is {
			want = allDigits[n]
		}
		if got, ok := Digit(n); got != want || ok != is {
			t.Errorf("Digit of %d: got %q %v", n, got, ok)
		}
	}
	for _, n := range []int{math.MinInt, math.MinInt + 1, -1 << 32, 1 << 8, 1 << 16, 1 << 32, 1<<32 + 35, math.MaxInt} {
		if got, ok := Digit(n); got != 0 || ok {
			t.Errorf("Digit of %d: got %q %v", n, got, ok)
		}
	}
}

// P5.1: every byte, those just outside of the digits too.
func TestValue(t *testing.T) {
	for b := range 256 {
		c := byte(b)
		want := max(strings.IndexByte(allDigits, c), strings.IndexByte("ABCDEFGHIJKLMNOPQRSTUVWXYZ", c))
		is := want >= 0
		if got, ok := Value(c); got != max(want, 0) || ok != is {
			t.Errorf("Value of %q: got %d %v", c, got, ok)
		}
	}
	for _, c := range []byte{'/', ':', '@', '[', '`', '{', '-', 0, 0x7f, 0x80, 0xe1, 0xff} {
		if got, ok := Value(c); got != 0 || ok {
			t.Errorf("Value of %q: got %d %v", c, got, ok)
		}
	}
}

// P5.1: delta 0 and the limit, first or not, 455 and 456, and these times what is divided by.
func TestAdapt(t *testing.T) {
	for _, c := range []struct {
		delta, count int
		first        bool
		want         int
	}{
		{0, 1, true, 0},
		{0, 1, false, 0},
		{0, math.MaxInt, false, 0},
		{1, 1, false, 0},
		{2, 1, false, 1},
		{699, 1, true, 0},
		{700, 1, true, 1},
		{700, 2, true, 0}, // 1 and 0: 36 / 39
		{100000, 10, false, 91},
		// 455 is not divided, 456 is.
		{455*700 - 1, 1000, true, 33},
		{455 * 700, 1000, true, 33},
		{456*700 - 1, 1000, true, 33},
		{456 * 700, 1000, true, 36 + 9},
		{455 * 2, 1000, false, 33},
		{455*2 + 1, 1000, false, 33},
		{456 * 2, 1000, false, 36 + 9},
		// Nor is it when it was divided before.
		{456*35*2 - 1, 1 << 20, false, 36 + 33},
		{456 * 35 * 2, 1 << 20, false, 72 + 9},
		{456*35*700 - 1, 1 << 20, true, 36 + 33},
		{456 * 35 * 700, 1 << 20, true, 72 + 9},
		// What count adds: 228 and 228 are 456.
		{227 * 2, 1, false, 33},
		{228 * 2, 1, false, 36 + 9},
		{228 * 2, 2, false, 32},
		{228 * 700, 1, true, 36 + 9},
		// The limit.
		{most, 1, true, 108 + 28},
		{most, 1, false, 180 + 18},
		{most, 2, false, 180 + 15},
		{most, math.MaxInt, false, 180 + 12},
		{most, math.MaxInt, true, 108 + 23},
	} {
		if got := Adapt(c.delta, c.count, c.first); got != c.want {
			t.Errorf("Adapt of %d %d %v: got %d, want %d", c.delta, c.count, c.first, got, c.want)
		}
	}
}

// P5.1: many deltas and counts.
func TestAdaptOfMany(t *testing.T) {
	hold := func(delta, count int) {
		for _, first := range []bool{false, true} {
			if got, want := Adapt(delta, count, first), slowAdapt(delta, count, first); got != want {
				t.Errorf("Adapt of %d %d %v: got %d, want %d", delta, count, first, got, want)
			}
		}
	}
	for _, count := range []int{1, 2, 3, 7, 35, 63, 64, 1000, most, math.MaxInt} {
		for delta := range 40000 {
			hold(delta, count)
			hold(most-delta, count)
			hold(delta*50001, count)
		}
	}
}

// P5.1, W1: what nothing is promised of ends too.
func TestAdaptEnds(t *testing.T) {
	numbers := []int{math.MinInt, math.MinInt + 1, -1 << 32, -most, -700 * 39, -700 * 38, -77, -76, -75, -38, -37, -2, -1, 0, 1, 2, most, most + 1, 1 << 40, math.MaxInt - 1, math.MaxInt}
	for _, delta := range numbers {
		for _, count := range numbers {
			Adapt(delta, count, true)
			Adapt(delta, count, false)
		}
	}
	for delta := -60000; delta < 100; delta++ {
		for count := -3; count < 4; count++ {
			Adapt(delta, count, true)
			Adapt(delta, count, false)
		}
	}
}

// P5.2, P5.3, P5.4: the samples, there and back.
func TestSamples(t *testing.T) {
	for _, c := range samples {
		wantString(t, c.l, c.s, true)
		wantRunes(t, c.s, c.l, true)
	}
	wantString(t, []rune{}, "", true)
}

// P5.3: great digits are read as small ones, plain characters stay as they are.
func TestDecodeEitherCase(t *testing.T) {
	for _, c := range samples {
		cut := max(strings.LastIndexByte(c.s, '-'), 0)
		wantRunes(t, c.s[:cut]+strings.ToUpper(c.s[cut:]), c.l, true)
	}
	wantRunes(t, "bcher-KvA", []rune{'b', 0xfc, 'c', 'h', 'e', 'r'}, true)
	wantRunes(t, "BcHer-kva", []rune{'B', 0xfc, 'c', 'H', 'e', 'r'}, true)
}

// P5.2: what is no character is not written, wherever it stands.
func TestEncodeWrong(t *testing.T) {
	for _, r := range odd {
		wantString(t, []rune{r}, "", false)
		wantString(t, []rune{'a', r}, "", false)
		wantString(t, []rune{r, 'a'}, "", false)
		wantString(t, []rune{0xfc, r, 0x10ffff, 'b'}, "", false)
	}
	for _, r := range []rune{0, 0x7f, 0x80, 0xd7ff, 0xe000, 0xffff, 0x10000, 0x10ffff} {
		if _, is := Encode([]rune{r}); !is {
			t.Errorf("Encode of %x: false", r)
		}
	}
}

// P5.3: what can't be read.
func TestDecodeWrong(t *testing.T) {
	for _, s := range []string{
		"-", "-a", "-kva", "-bcher", // a - at the first byte is none that stands between
		"a-!", "a- ", "a-/", "a-:", "a-@", "a-[", "a-`", "a-{", "a-kv\x00", "a-kva!", "!", "kva ", "bcher-kva.",
		"a-\x80", "a-\xff", "\xff", "\xc3\xbc", "kva\xe1", // no digits
		"\x80-", "\xff-kva", "a\x80-kva", "\xc3\xbc-kva", "-\x80-kva", "\x80-a-kva", // not all of ASCII
		"b", "9", "z", "bcher-kv", "bcher-k", "bcher-kva9", "tda9", "9999999", // cut short
		"99999999", "zzzzzz", "999999999999999999999999999999999999999999999999", // too great
		strings.Repeat("9", 5000), strings.Repeat("z", 5000), "a-" + strings.Repeat("9", 5000) + "a",
	} {
		wantRunes(t, s, nil, false)
	}
}

// P5.3: of one number, which characters it comes to.
func TestDecodeToNone(t *testing.T) {
	for _, r := range []rune{0x80, 0xd7ff, 0xe000, 0xffff, 0x10000, 0x10fffe, 0x10ffff} {
		wantRunes(t, slowDigits(int(r-0x80), 36, 72), []rune{r}, true)
	}
	for _, r := range []rune{0xd800, 0xdbff, 0xdc00, 0xdfff, 0x110000, 0x110001, 0x1000000, most - 1, most} {
		wantRunes(t, slowDigits(int(r-0x80), 36, 72), nil, false)
	}
	for number := most - 1000; number <= most; number++ { // the character would be one past 32 bits
		wantRunes(t, slowDigits(number, 36, 72), nil, false)
	}
	// The second one goes on from the first one's character: 10ffff twice is fine, one more is not.
	bias := slowAdapt(0x10ffff-0x80, 1, true)
	head := slowDigits(0x10ffff-0x80, 36, 72)
	wantRunes(t, head+slowDigits(0, 36, bias), []rune{0x10ffff, 0x10ffff}, true)
	wantRunes(t, head+slowDigits(1, 36, bias), nil, false)
	wantRunes(t, head+slowDigits(2, 36, bias), nil, false)
}

// P5.3: a number at the limit and past it, alone and with what it is added to.
func TestDecodeAtLimit(t *testing.T) {
	const many = 3000
	plain := strings.Repeat("p", many)
	at := most % (many + 1)
	want := []rune(plain[:at] + string(rune(0x80+most/(many+1))) + plain[at:])
	wantRunes(t, plain+"-"+slowDigits(most, 36, 72), want, true)
	for over := 1; over < 100; over++ {
		wantRunes(t, plain+"-"+slowDigits(most+over, 36, 72), nil, false)
	}
	for _, number := range []int{1 << 32, 1<<32 + 1, 1 << 33, 1 << 40, 1 << 62, math.MaxInt} {
		wantRunes(t, plain+"-"+slowDigits(number, 36, 72), nil, false)
	}
	// Behind the first character, at 0, the next place is 1.
	head, bias := plain+"-"+slowDigits(0, 36, 72), slowAdapt(0, many+1, true)
	at = most % (many + 2)
	plain = "\u0080" + plain
	want = []rune(plain[:at+1] + string(rune(0x80+most/(many+2))) + plain[at+1:])
	wantRunes(t, head+slowDigits(most-1, 36, bias), want, true)
	wantRunes(t, head+slowDigits(most, 36, bias), nil, false)
	wantRunes(t, head+slowDigits(most+1, 36, bias), nil, false)
}

// P5.2: delta grows up to the limit, and not past it.
func TestEncodeAtLimit(t *testing.T) {
	for _, c := range []struct {
		many int
		last rune
		is   bool
	}{
		{1, 0x10080, true},
		{32765, 0x10080, true},
		{32766, 0x10080, true}, // 32767, and 65535 times 32768: the limit
		{32767, 0x10080, false},
		{32766, 0x10081, false},
		{32766, 0x1007f, true},
		{40000, 0x10080, false},
	} {
		plain := strings.Repeat("p", c.many)
		want := ""
		if c.is {
			delta := c.many + 1 + int(c.last-0x81)*(c.many+2)
			want = plain + "-" + slowDigits(0, 36, 72) + slowDigits(delta, 36, slowAdapt(0, c.many+1, true))
		}
		wantString(t, []rune(string(c.last)+"\u0080"+plain), want, c.is)
	}
	wantString(t, []rune(strings.Repeat("p", 1928)+"\U0010ffff"), "", false)
	// Of the ones by which delta grows within a row the promise names no end: it is written, but can't be read.
	plain := strings.Repeat("p", 46340)
	far := plain + "-" + slowDigits(46340*46341+46340, 36, 72)
	wantString(t, []rune(plain+string(rune(0x80+46340))), far, true)
	wantRunes(t, far, nil, false)
}

// P5.2, P5.4: all rows of few characters, against a walk from place to place.
func TestRows(t *testing.T) {
	hold := func(l []rune) {
		want := slowEncode(l)
		wantString(t, l, want, true)
		wantRunes(t, want, l, true)
	}
	for n := range 5 {
		eachRow([]rune{'-', 'a', 'Z', 0x7f, 0x80, 0x81, 0xfc, 0x3b1}, n, hold)
	}
	for n := range 7 {
		eachRow([]rune{'a', 0x80, 0x81, 0xa4}, n, hold)
	}
	for n := range 4 {
		eachRow([]rune{'b', 0x7ff, 0x800, 0x30ab}, n, hold)
	}
}

// P5.4: rows of characters of one to four bytes, there and back.
func TestRowsOfAllLengths(t *testing.T) {
	for n := range 6 {
		eachRow([]rune{0, '-', 'x', 0x80, 0x7ff, 0xd7ff, 0xe000, 0xffff, 0x10000, 0x10ffff}, n, func(l []rune) {
			s, is := Encode(l)
			if !is {
				t.Fatalf("Encode of %x: false", l)
			}
			wantRunes(t, s, l, true)
		})
	}
}

// P5.2, P5.4: every character, alone, behind a plain one and ahead of one of its own.
func TestEveryCharacter(t *testing.T) {
	for r := rune(0x80); r <= 0x10ffff; r++ {
		if r == 0xd800 {
			r = 0xe000
		}
		number := int(r - 0x80)
		wantString(t, []rune{r}, slowDigits(number, 36, 72), true)
		for _, l := range [][]rune{{r}, {'a', r}, {r, r}, {r, 0xfc}} {
			s, _ := Encode(l)
			wantRunes(t, s, l, true)
		}
	}
}

// P5.3, P5.4: all short strings of some bytes, against a walk from place to place; what is read is written so again.
func TestStrings(t *testing.T) {
	for n := range 6 {
		eachRow([]byte("abkz09AKZ-!\x80"), n, func(b []byte) {
			s := string(b)
			l, is := slowDecode(s)
			wantRunes(t, s, l, is)
			if is {
				wantString(t, l, small(s), true)
			}
		})
	}
	for n := range 10 {
		eachRow([]byte("ab-9"), n, func(b []byte) {
			if l, is := Decode(string(b)); is {
				wantString(t, l, string(b), true)
			}
		})
	}
}

// W6: nothing handed in is changed, nor its spare room; what is answered is new.
func TestNewMemory(t *testing.T) {
	room := []rune{0xfc, 'b', 0x80, 7, 8, 9}
	Encode(room[:3])
	if want := []rune{0xfc, 'b', 0x80, 7, 8, 9}; !slices.Equal(room, want) {
		t.Errorf("changed: %x", room)
	}
	for _, s := range []string{"bcher-kva", "ab-", "tda", ""} {
		one, _ := Decode(s)
		two, _ := Decode(s)
		want := slices.Clone(two)
		one = one[:cap(one)]
		for k := range one {
			one[k] = 1
		}
		if !slices.Equal(two, want) {
			t.Errorf("Decode of %q shares memory", s)
		}
	}
}

// W1: long ones end soon.
func TestLong(t *testing.T) {
	began := time.Now()
	l := slices.Repeat([]rune{'a', 0x80, 0x81, '-', 0xfc}, 1<<13)
	for k := range l[:1000] {
		l[k] = rune(0x4e00 + k*7%1000)
	}
	s, is := Encode(l)
	if !is {
		t.Fatal("Encode of a long one: false")
	}
	wantRunes(t, s, l, true)
	wantRunes(t, strings.Repeat("a", 1<<20), slices.Repeat([]rune{0x80}, 1<<20), true)
	wantRunes(t, strings.Repeat("-", 1<<20), []rune(strings.Repeat("-", 1<<20-1)), true)
	wantRunes(t, strings.Repeat("9", 1<<22), nil, false)
	if took := time.Since(began); took > 20*time.Second {
		t.Errorf("took %v", took)
	}
}
