package utf

import (
	"math"
	"slices"
	"strings"
	"testing"
	"unicode/utf8"
)

// forms are characters at the edges of each length and of the gap, and ordinary ones, with their bytes written out.
var forms = []struct {
	r rune
	s string
}{
	{0, "\x00"}, {1, "\x01"}, {'a', "a"}, {0x7f, "\x7f"},
	{0x80, "\xc2\x80"}, {0xbf, "\xc2\xbf"}, {0xc0, "\xc3\x80"}, {0xe4, "\xc3\xa4"}, {0x7ff, "\xdf\xbf"},
	{0x800, "\xe0\xa0\x80"}, {0xfff, "\xe0\xbf\xbf"}, {0x1000, "\xe1\x80\x80"}, {0x4e00, "\xe4\xb8\x80"},
	{0xd7ff, "\xed\x9f\xbf"}, {0xe000, "\xee\x80\x80"}, {0xfffd, "\xef\xbf\xbd"}, {0xffff, "\xef\xbf\xbf"},
	{0x10000, "\xf0\x90\x80\x80"}, {0x10400, "\xf0\x90\x90\x80"}, {0x3ffff, "\xf0\xbf\xbf\xbf"}, {0x40000, "\xf1\x80\x80\x80"},
	{0xfffff, "\xf3\xbf\xbf\xbf"}, {0x100000, "\xf4\x80\x80\x80"}, {0x10ffff, "\xf4\x8f\xbf\xbf"},
}

// none are numbers that are no characters; the low bits of some would make one.
var none = []rune{
	math.MinInt32, math.MinInt32 + 'a', -0x110000, -0x10ffff, -0xd800, -0x80, -'a', -1,
	0xd800, 0xd801, 0xdbff, 0xdc00, 0xdffe, 0xdfff,
	0x110000, 0x110001, 0x1fffff, 0x200000, 0x3ffffff, 0x4000000, math.MaxInt32 - 1, math.MaxInt32,
}

// broken are bytes that begin with no character's bytes, whatever stands behind them but 80 to bf.
var broken = []string{
	// A byte that may not stand first.
	"\x80", "\x81", "\x9f", "\xa4", "\xbf", "\x80a", "\x80\x80", "\xf8", "\xfb", "\xfc", "\xfd", "\xfe", "\xff",
	"\xf8\x80\x80\x80", "\xf8\x88\x80\x80\x80", "\xfc\x84\x80\x80\x80\x80", "\xfe\x80\x80\x80\x80\x80\x80", "\xff\xbf\xbf\xbf",
	// Too long a form.
	"\xc0\x80", "\xc0\xaf", "\xc0\xbf", "\xc1\x80", "\xc1\xbf", "\xc0", "\xc1",
	"\xe0\x80\x80", "\xe0\x80\xaf", "\xe0\x81\xbf", "\xe0\x82\x80", "\xe0\x9f\xbf",
	"\xf0\x80\x80\x80", "\xf0\x80\x81\xbf", "\xf0\x80\x9f\xbf", "\xf0\x80\xa0\x80", "\xf0\x8f\xbf\xbf",
	// The gap.
	"\xed\xa0\x80", "\xed\xaf\xbf", "\xed\xb0\x80", "\xed\xbf\xbf", "\xed\xa0\x80\xed\xb0\x80",
	// Behind the last one.
	"\xf4\x90\x80\x80", "\xf4\xbf\xbf\xbf", "\xf5\x80\x80\x80", "\xf6\x80\x80\x80", "\xf7\xbf\xbf\xbf",
	// An end within a character.
	"\xc2", "\xc3", "\xdf", "\xe0", "\xe0\xa0", "\xe4", "\xe4\xb8", "\xed\x9f", "\xef\xbf", "\xf0", "\xf0\x90", "\xf0\x90\x80", "\xf4", "\xf4\x8f", "\xf4\x8f\xbf",
	// Another byte within a character.
	"\xc3a", "\xc3\x7f", "\xc3\x00", "\xc3\xc3\xa4", "\xc3\xc0", "\xc3\xff", "\xe4a\x80", "\xe4\xb8a", "\xe4\xb8\x7f", "\xe4\xb8\xc0", "\xe4\xc0\x80", "\xe4\xb8\xe4\xb8\x80",
	"\xf0a\x80\x80", "\xf0\x90a\x80", "\xf0\x90\x80a", "\xf0\x90\x80\xc0", "\xf0\xd0\x80\x80", "\xf0\x90\xff\x80",
}

// edgeBytes are first and last of all kinds of bytes, and their neighbours.
var edgeBytes = []byte{
	0x00, 0x41, 0x7f, 0x80, 0x81, 0x8f, 0x90, 0x9f, 0xa0, 0xbf, 0xc0, 0xc1, 0xc2, 0xdf,
	0xe0, 0xe1, 0xec, 0xed, 0xee, 0xef, 0xf0, 0xf1, 0xf3, 0xf4, 0xf5, 0xf7, 0xf8, 0xff,
}

// readByLibrary is what Runes must tell, read in another way.
func readByLibrary(s string) ([]rune, int) {
	var l []rune
	for at := 0; at < len(s); {
		r, n := utf8.DecodeRuneInString(s[at:])
		if r == utf8.RuneError && n == 1 {
			return l, at
		}
		l = append(l, r)
		at += n
	}
	return l, -1
}

// eachText hands on every string of n bytes out of some.
func eachText(some []byte, n int, do func(string)) {
	text := make([]byte, n)
	var fill func(int)
	fill = func(at int) {
		if at == n {
			do(string(text))
			return
		}
		for _, b := range some {
			text[at] = b
			fill(at + 1)
		}
	}
	fill(0)
}

// overwrite fills l, and its spare room, with r.
func overwrite(l []rune, r rune) {
	l = l[:cap(l)]
	for k := range l {
		l[k] = r
	}
}

// wantRunes holds one answer of Runes against what it must be.
func wantRunes(t *testing.T, s string, want []rune, wantAt int) {
	t.Helper()
	if l, at := Runes(s); !slices.Equal(l, want) || at != wantAt {
		t.Errorf("Runes(% x): got %x; %d, want %x; %d", s, l, at, want, wantAt)
	}
}

// P2.1: characters, and their lengths.
func TestRightAndLen(t *testing.T) {
	for _, f := range forms {
		if !Right(f.r) || Len(f.r) != len(f.s) {
			t.Errorf("%x: got %v, %d, want true, %d", f.r, Right(f.r), Len(f.r), len(f.s))
		}
	}
	for _, r := range none {
		if Right(r) || Len(r) != 0 {
			t.Errorf("%d: got %v, %d, want false, 0", r, Right(r), Len(r))
		}
	}
}

// P2.1: every number from below 0 to behind the last character is told of as another reader of them says.
func TestRightAndLenOfAll(t *testing.T) {
	for r := rune(-0x200); r < 0x110200; r++ {
		right, n := utf8.ValidRune(r), max(utf8.RuneLen(r), 0)
		if Right(r) != right || Len(r) != n {
			t.Fatalf("%x: got %v, %d, want %v, %d", r, Right(r), Len(r), right, n)
		}
	}
}

// P2.1: the bytes of one character, of several, and of none.
func TestString(t *testing.T) {
	var all []rune
	var want strings.Builder
	for _, f := range forms {
		if s, ok := String([]rune{f.r}); s != f.s || !ok {
			t.Errorf("%x: got % x, %v, want % x", f.r, s, ok, f.s)
		}
		all = append(all, f.r)
		want.WriteString(f.s)
	}
	if s, ok := String(all); s != want.String() || !ok {
		t.Errorf("all: got % x, %v, want % x", s, ok, want.String())
	}
	if s, ok := String(nil); s != "" || !ok {
		t.Errorf("nil: got % x, %v", s, ok)
	}
	if s, ok := String([]rune{}); s != "" || !ok {
		t.Errorf("no characters: got % x, %v", s, ok)
	}
}

// P2.1: every character's bytes are as another writer of them says.
func TestStringOfAll(t *testing.T) {
	for r := rune(0); r < 0x110200; r++ {
		want := ""
		if utf8.ValidRune(r) {
			want = string(utf8.AppendRune(nil, r))
		}
		if s, ok := String([]rune{r}); s != want || ok != (want != "") {
			t.Fatalf("%x: got % x, %v, want % x", r, s, ok, want)
		}
	}
}

// P2.1: one that is no character, wherever it stands, leaves nothing.
func TestStringOfNone(t *testing.T) {
	for _, r := range none {
		for _, l := range [][]rune{{r}, {r, 'a'}, {'a', r}, {0xe4, r, 0x10ffff}, {'a', 'b', 'c', r}, {r, r}} {
			if s, ok := String(l); s != "" || ok {
				t.Errorf("%x: got % x, %v, want nothing", l, s, ok)
			}
		}
	}
}

// P2.2: the bytes of one character, of several, and of none.
func TestRunes(t *testing.T) {
	var all []rune
	var text strings.Builder
	for _, f := range forms {
		wantRunes(t, f.s, []rune{f.r}, -1)
		all = append(all, f.r)
		text.WriteString(f.s)
	}
	wantRunes(t, text.String(), all, -1)
	wantRunes(t, "", nil, -1)
	wantRunes(t, "b\xc3\xbccher", []rune{'b', 0xfc, 'c', 'h', 'e', 'r'}, -1)
	// The character that others write for what is wrong is one like all.
	wantRunes(t, "\xef\xbf\xbd\xef\xbf\xbd", []rune{0xfffd, 0xfffd}, -1)
}

// P2.2: what begins rightly is told up to where it is wrong; what is right behind that place is not.
func TestRunesOfWrong(t *testing.T) {
	wantRunes(t, "\xc3\xa4\x80", []rune{0xe4}, 2)
	for _, s := range broken {
		wantRunes(t, s, nil, 0)
		wantRunes(t, s+"ab", nil, 0)
		wantRunes(t, "a"+s, []rune{'a'}, 1)
		wantRunes(t, "ab"+s+"c", []rune{'a', 'b'}, 2)
		for _, f := range forms {
			wantRunes(t, f.s+s, []rune{f.r}, len(f.s))
			wantRunes(t, "a"+f.s+s+f.s, []rune{'a', f.r}, 1+len(f.s))
		}
	}
}

// P2.2: each character that is cut short, at every place, is wrong from its beginning on.
func TestRunesCutShort(t *testing.T) {
	for _, f := range forms {
		for n := 1; n < len(f.s); n++ {
			wantRunes(t, f.s[:n], nil, 0)
			wantRunes(t, "\xc3\xa4"+f.s[:n], []rune{0xe4}, 2)
		}
	}
}

// P2.2: every string of two bytes, and every one of up to four out of the edges, is read as another reader says.
func TestRunesOfAll(t *testing.T) {
	var every []byte
	for b := range 0x100 {
		every = append(every, byte(b))
	}
	check := func(s string) {
		want, wantAt := readByLibrary(s)
		if l, at := Runes(s); !slices.Equal(l, want) || at != wantAt {
			t.Fatalf("Runes(% x): got %x; %d, want %x; %d", s, l, at, want, wantAt)
		}
	}
	for n := 0; n <= 2; n++ {
		eachText(every, n, check)
	}
	for n := 3; n <= 4; n++ {
		eachText(edgeBytes, n, check)
	}
}

// P2.2: the first byte of 80 or more, be it right or wrong there.
func TestEight(t *testing.T) {
	for _, c := range []struct {
		s    string
		want int
	}{
		{"", -1}, {"a", -1}, {"\x00", -1}, {"\x7f", -1}, {"ab\x7f\x00\r\n", -1},
		{"\x80", 0}, {"\xff", 0}, {"\xc3\xa4", 0}, {"a\x80", 1}, {"ab\x80", 2}, {"\x7f\x80\x81", 1},
		{"b\xc3\xbccher", 1}, {"a\xffb\xff", 1}, {"abc\xf0\x90\x80\x80", 3}, {strings.Repeat("x", 5000) + "\x80", 5000}, {strings.Repeat("x", 5000), -1},
	} {
		if got := Eight(c.s); got != c.want {
			t.Errorf("% x: got %d, want %d", c.s, got, c.want)
		}
	}
	for b := range 0x100 {
		want := -1
		if b >= 0x80 {
			want = 3
		}
		if got := Eight("abc" + string([]byte{byte(b)}) + "d"); got != want {
			t.Errorf("%x: got %d, want %d", b, got, want)
		}
	}
}

// P2.3: what Runes answers is nobody else's, spare room too, be it up to the end or to a wrong place.
func TestRunesIsNew(t *testing.T) {
	for _, s := range []string{"ab\xc3\xa4cde", "ab\xc3\xa4cd\xff", "a", "abcdefghijklmnopq"} {
		want, at := readByLibrary(s)
		first, _ := Runes(s)
		second, _ := Runes(s)
		overwrite(first, 'X')
		if !slices.Equal(second, want) {
			t.Errorf("% x: one answer changed another: %x", s, second)
		}
		overwrite(second, 'Y')
		if slices.Contains(first[:cap(first)], 'Y') {
			t.Errorf("% x: two answers share spare room", s)
		}
		wantRunes(t, s, want, at)
	}
}

// P2.3: String changes neither what it is handed nor its spare room, and keeps none of it, be all of it characters or not.
func TestStringIsNew(t *testing.T) {
	for _, c := range []struct {
		r    rune
		want string
	}{{0xe4, "a\xc3\xa4b"}, {0xd800, ""}} {
		room := []rune{'a', c.r, 'b', 'c', 'd'}
		s, _ := String(room[:3])
		if !slices.Equal(room, []rune{'a', c.r, 'b', 'c', 'd'}) {
			t.Errorf("%x: what was handed in is changed: %x", c.r, room)
		}
		overwrite(room, 'X')
		if s != c.want {
			t.Errorf("%x: got % x, want % x", c.r, s, c.want)
		}
	}
}

// P2.4: all characters, one by one and together, are told back by their bytes.
func TestCharactersBack(t *testing.T) {
	var all []rune
	for r := rune(0); r <= 0x10ffff; r++ {
		s, ok := String([]rune{r})
		if !ok {
			continue
		}
		if l, at := Runes(s); len(l) != 1 || l[0] != r || at != -1 || len(s) != Len(r) {
			t.Fatalf("%x: by % x got %x; %d", r, s, l, at)
		}
		all = append(all, r)
	}
	if len(all) != 0x110000-0x800 {
		t.Errorf("%d characters", len(all))
	}
	s, ok := String(all)
	if l, at := Runes(s); !ok || at != -1 || !slices.Equal(l, all) {
		t.Errorf("all together: %v, %d of %d; %d", ok, len(l), len(all), at)
	}
}

// P2.4: bytes are told back by what is read of them, up to the first place where they are none.
func TestBytesBack(t *testing.T) {
	check := func(s string) {
		l, at := Runes(s)
		end := at
		if at == -1 {
			end = len(s)
		}
		if back, ok := String(l); back != s[:end] || !ok {
			t.Fatalf("% x: read as %x; %d, told back as % x, %v", s, l, at, back, ok)
		}
		if at == -1 {
			return
		}
		// As many as there are: of what follows, no beginning is a character.
		for n := 1; n <= 4 && at+n <= len(s); n++ {
			if l, more := Runes(s[at : at+n]); more != 0 || len(l) != 0 {
				t.Fatalf("% x: at %d there is one more: %x", s, at, l)
			}
		}
	}
	for n := 0; n <= 4; n++ {
		eachText(edgeBytes, n, check)
	}
	for _, s := range broken {
		check("\xf4\x8f\xbf\xbf" + s + "a")
	}
}
