package line

import (
	"fmt"
	"math"
	"slices"
	"strings"
	"testing"
	"unsafe"

	"pillarbox/api"
	"pillarbox/rows"
)

// What is told of a line without its text.
var (
	bare = api.Framed{Bare: true}
	long = api.Framed{Long: true}
	both = api.Framed{Long: true, Bare: true}
)

// text is a line that is told.
func text(s string) api.Framed { return api.Framed{Text: s} }

// of are lines.
func of(l ...api.Framed) []api.Framed { return l }

// shown are lines as a fault tells them, the first ones if there are many.
func shown(l []api.Framed) string {
	return fmt.Sprintf("%.299s", fmt.Sprintf("%+v", l))
}

// sample is what comes, the lines of it, each of up to 3 bytes, and how many bytes are left.
type sample struct {
	came  string
	lines []api.Framed
	rest  int
}

var samples = []sample{
	// Nothing, and no line's end.
	{"", nil, 0}, {"a", nil, 1}, {"abc", nil, 3}, {"abcd", nil, 4}, {strings.Repeat("a", 5000), nil, 5000}, {"\x00", nil, 1}, {"\x80\xff", nil, 2},
	// One line.
	{"\r\n", of(text("")), 0}, {"a\r\n", of(text("a")), 0}, {"ab\r\n", of(text("ab")), 0}, {"abc\r\n", of(text("abc")), 0}, {" \t\r\n", of(text(" \t")), 0}, {"..\r\n", of(text("..")), 0},
	// One line, and a rest.
	{"\r\na", of(text("")), 1}, {"a\r\nb", of(text("a")), 1}, {"ab\r\nabcdef", of(text("ab")), 6}, {"a\r\n\r", of(text("a")), 1}, {"a\r\n\n", of(text("a")), 1}, {"a\r\nb\r", of(text("a")), 2}, {"a\r\n\r\r", of(text("a")), 2}, {"a\r\n\n\r", of(text("a")), 2},
	// Several.
	{"\r\n\r\n", of(text(""), text("")), 0}, {"a\r\nb\r\n", of(text("a"), text("b")), 0}, {"a\r\n\r\nb\r\n", of(text("a"), text(""), text("b")), 0}, {"\r\n\r\n\r\nab", of(text(""), text(""), text("")), 2}, {"a\r\na\r\na\r\n", of(text("a"), text("a"), text("a")), 0}, {"a\r\nbc\r\ndef\r\ngh", of(text("a"), text("bc"), text("def")), 2},
	// Too long, by one and by many.
	{"abcd\r\n", of(long), 0}, {"abcdefgh\r\n", of(long), 0}, {strings.Repeat("a", 5000) + "\r\n", of(long), 0}, {"    \r\n", of(long), 0}, {"abcd\r\na\r\n", of(long, text("a")), 0}, {"a\r\nabcd\r\nb\r\nc", of(text("a"), long, text("b")), 1}, {"abcd\r\nabcde\r\n", of(long, long), 0},
	// A return alone: at the beginning, in the middle, at the end.
	{"\ra", nil, 2}, {"\ra\r\n", of(bare), 0}, {"a\rb\r\n", of(bare), 0}, {"a\r\r\n", of(bare), 0}, {"\r\r\n", of(bare), 0}, {"\r\r\r\n", of(bare), 0}, {"\r\r\r\r\n", of(bare), 0}, {"\ra\r\r\n", of(bare), 0}, {"\r\r", nil, 2}, {"\r", nil, 1},
	// A feed alone likewise.
	{"\na", nil, 2}, {"\na\r\n", of(bare), 0}, {"a\nb\r\n", of(bare), 0}, {"a\n\r\n", of(bare), 0}, {"\n\r\n", of(bare), 0}, {"\n\n\r\n", of(bare), 0}, {"\n\n\n\r\n", of(bare), 0}, {"\n\n", nil, 2}, {"\n", nil, 1},
	// Feeds behind a return, both turned round, and both mixed.
	{"\r\n\n", of(text("")), 1}, {"\r\n\n\n\r\n", of(text(""), bare), 0}, {"a\r\n\n\n", of(text("a")), 2}, {"a\r\n\nb\r\n", of(text("a"), bare), 0}, {"\n\r", nil, 2}, {"\n\r\n\r", of(bare), 1}, {"\r\n\r\r\n", of(text(""), bare), 0}, {"\r\r\n\n\r\n", of(bare, bare), 0}, {"\n\r\r\n", of(bare), 0}, {"\ra\n\r\n", of(bare), 0}, {"\r \n", nil, 3},
	// Bare as long as may be, and both at once, what is bare within the bytes that it may have, or past them.
	{"a\rb\r\nabc\r\n", of(bare, text("abc")), 0}, {"ab\r\r\n", of(bare), 0}, {"abc\r\r\n", of(both), 0}, {"\nabc\r\n", of(both), 0}, {"a\nbc\r\n", of(both), 0}, {"abcdef\rg\r\n", of(both), 0}, {"\r\r\r\r\r\n", of(both), 0}, {"\n\n\n\n\r\n", of(both), 0}, {"abc\n\r\nd\r\n", of(both, text("d")), 0}, {"abcd\r\na\r\r\nabcd\r\r\nab\r\n", of(long, bare, both, text("ab")), 0},
	// Bytes of 80 or more, of characters and of none, and the byte 0: each is one byte like any other.
	{"\u00e4\r\n", of(text("\u00e4")), 0}, {"\u4e00\r\n", of(text("\u4e00")), 0}, {"\U00010400\r\n", of(long), 0}, {"\u00e4\u00e4\r\n", of(long), 0}, {"\x80\xff\r\n", of(text("\x80\xff")), 0}, {"\xc3\r\n\xa4\r\n", of(text("\xc3"), text("\xa4")), 0}, {"\x8d\x8a\r\n", of(text("\x8d\x8a")), 0}, {"\xef\xbf\xbd\r\n", of(text("\xef\xbf\xbd")), 0}, {"\u0085\r\n", of(text("\u0085")), 0}, {"\u2028\r\n", of(text("\u2028")), 0},
	{"\x00\r\n", of(text("\x00")), 0}, {"a\x00b\r\n", of(text("a\x00b")), 0}, {"\x00\x00\x00\x00\r\n", of(long), 0}, {"\r\x00\n", nil, 3}, {"\r\x00\n\r\n", of(bare), 0},
	{"\r\xff\r\n", of(bare), 0}, {"\xff\n\xff\r\n", of(bare), 0},
	// Other ends of lines of others are none.
	{"\v\f\r\n", of(text("\v\f")), 0}, {"\x1e\r\n", of(text("\x1e")), 0}, {`\r\n`, nil, 4},
}

// ask feeds all pieces, and answers all lines.
func ask(f *Framer, pieces ...string) []api.Framed {
	var lines []api.Framed
	for _, p := range pieces {
		lines = append(lines, f.Feed(p)...)
	}
	return lines
}

// wantLines feeds a piece to f, and wants these lines.
func wantLines(t *testing.T, f *Framer, piece string, lines []api.Framed) {
	t.Helper()
	if got := f.Feed(piece); !slices.Equal(got, lines) {
		t.Errorf("lines of %.199q: got %s, want %s", piece, shown(got), shown(lines))
	}
}

// wantFed feeds pieces to f, and wants these lines, and a rest of so many bytes.
func wantFed(t *testing.T, f *Framer, pieces []string, lines []api.Framed, rest int) {
	t.Helper()
	if got := ask(f, pieces...); !slices.Equal(got, lines) {
		t.Errorf("lines of %.199q: got %s, want %s", pieces, shown(got), shown(lines))
	}
	if got := f.Rest(); got != rest {
		t.Errorf("rest of %.199q: got %d, want %d", pieces, got, rest)
	}
}

// mosts are numbers of bytes, and how many a line may have by them.
var mosts = []struct{ n, most int }{
	{math.MinInt, 0}, {math.MinInt + 1, 0}, {math.MinInt32, 0}, {-510, 0}, {-2, 0}, {-1, 0}, {0, 0}, {1, 1}, {2, 2}, {3, 3}, {77, 77}, {255, 255}, {256, 256}, {api.MaxLine, api.MaxLine}, {api.MaxBody, api.MaxBody}, {1 << 16, 1 << 16},
}

// wantMost wants lines of up to most bytes to be told by f, and longer ones not, in one piece and in several.
func wantMost(t *testing.T, f *Framer, most int) {
	t.Helper()
	for _, n := range []int{0, 1, most - 1, most, most + 1, most + 2, 2*most + 9} {
		if n < 0 {
			continue
		}
		s := strings.Repeat("x", n)
		want := text(s)
		if n > most {
			want = long
		}
		wantFed(t, f, []string{s + "\r\n"}, of(want), 0)
		wantFed(t, f, []string{s, "\r\n"}, of(want), 0)
		wantFed(t, f, []string{s[:n/2], s[n/2:] + "\r", "\n"}, of(want), 0)
	}
}

// P16.1: of a new one nothing came, and a line may have as many bytes as New says, none if that is less.
func TestNew(t *testing.T) {
	for _, c := range mosts {
		wantFed(t, New(c.n), nil, nil, 0)
		wantFed(t, New(c.n), []string{""}, nil, 0)
		wantMost(t, New(c.n), c.most)
	}
	s := strings.Repeat("x", 1<<16)
	for _, n := range []int{math.MaxInt, math.MaxInt - 1, math.MaxInt32, 1 << 40} {
		wantFed(t, New(n), []string{s + "\r\n\r\n"}, of(text(s), text("")), 0)
	}
}

// P16.1: Most says anew how many bytes a line may have, whatever was said ahead.
func TestMost(t *testing.T) {
	for _, c := range mosts {
		for _, ahead := range []int{-1, 0, 1, 5, math.MaxInt} {
			f := New(ahead)
			f.Most(c.n)
			wantFed(t, f, nil, nil, 0)
			wantMost(t, f, c.most)
			f.Most(ahead)
			f.Most(c.n)
			wantMost(t, f, c.most)
		}
	}
	f, s := New(0), strings.Repeat("x", 1<<16)
	f.Most(math.MaxInt)
	wantFed(t, f, []string{s + "\r\n\r\n"}, of(text(s), text("")), 0)
	f.Most(math.MinInt)
	wantFed(t, f, []string{s + "\r\n\r\n"}, of(long, text("")), 0)
}

// P16.1: Most between two pieces holds of the line in whose middle it stands, whose bytes stay, and of those behind it, and not of those ahead.
func TestMostInALine(t *testing.T) {
	for _, c := range []struct {
		ahead  int
		first  string
		told   []api.Framed
		most   int
		second string
		lines  []api.Framed
	}{
		{3, "ab", nil, 5, "cde\r\n", of(text("abcde"))}, {3, "ab", nil, 5, "cdef\r\n", of(long)}, {3, "abc", nil, 4, "d\r\n", of(text("abcd"))}, {3, "", nil, 4, "abcd\r\n", of(text("abcd"))},
		{5, "ab", nil, 3, "c\r\n", of(text("abc"))}, {5, "ab", nil, 3, "cd\r\n", of(long)}, {5, "abcd", nil, 3, "\r\n", of(long)}, {5, "abcd", nil, 0, "\r\n\r\n", of(long, text(""))}, {5, "abcd", nil, -1, "\r\n\r\na\r\n", of(long, text(""), long)},
		// What was too long by the number ahead need not stay so.
		{3, "abcd", nil, 4, "\r\n", of(text("abcd"))}, {3, "abcd", nil, 5, "e\r\n", of(text("abcde"))}, {0, "abcd", nil, 9, "efghi\r\n", of(text("abcdefghi"))}, {-1, "abcd", nil, 4, "e\r\n", of(long)},
		// Within a line's end, and between two lines.
		{3, "abcd\r", nil, 4, "\n", of(text("abcd"))}, {4, "abcd\r", nil, 3, "\n", of(long)}, {3, "abc\r\n", of(text("abc")), 1, "ab\r\na\r\n", of(long, text("a"))}, {3, "abcd\r\n", of(long), 9, "abcd\r\n", of(text("abcd"))}, {3, "abcd\r\nab", of(long), 9, "cd\r\nef\r\n", of(text("abcd"), text("ef"))},
		// What is bare stays so.
		{3, "a\n", nil, 9, "bcd\r\n", of(bare)}, {3, "a\rbcd", nil, 9, "\r\n", of(bare)}, {9, "a\rbcd", nil, 3, "\r\n", of(both)},
	} {
		f := New(c.ahead)
		wantLines(t, f, c.first, c.told)
		rest := f.Rest()
		f.Most(c.most)
		wantFed(t, f, nil, nil, rest)
		wantFed(t, f, []string{c.second}, c.lines, 0)
	}
}

// P16.1: the last Most counts, and one that holds of no line does nothing.
func TestMostTwice(t *testing.T) {
	f := New(3)
	f.Feed("ab")
	f.Most(0)
	f.Most(4)
	wantFed(t, f, []string{"cd\r\n"}, of(text("abcd")), 0)
	f.Most(9)
	f.Most(3)
	wantFed(t, f, []string{"abcd\r\n"}, of(long), 0)
}

// P16.1: Rest is how many bytes came behind the last line's end, whatever they are; the first byte of a line's end is one of them till the second one comes.
func TestRest(t *testing.T) {
	for _, c := range []struct {
		pieces []string
		rests  []int
	}{
		{[]string{"", "a", "", "bc", "\r", "", "\n", ""}, []int{0, 1, 1, 3, 4, 4, 0, 0}},
		{[]string{"\r", "\r", "\n", "\n", "\r", "\n"}, []int{1, 2, 0, 1, 2, 0}},
		{[]string{"\n", "\r", "a", "\n"}, []int{1, 2, 3, 4}},
		{[]string{"abcd", "efgh", "\r", "i", "\r\n", "j"}, []int{4, 8, 9, 10, 0, 1}},
		{[]string{"abcd\r\n", "efgh\r\nij", "k\r", "\nl"}, []int{0, 2, 4, 1}},
		{[]string{"a\r\nb\r\nc\r", "\n\r\n\r"}, []int{2, 1}},
		{[]string{"a\nb", "c\nd", "\r\n", "\x00", "\x80\xff"}, []int{3, 6, 0, 1, 3}},
		{[]string{"\u00e4", "\U00010400", "\r\n\u4e00"}, []int{2, 6, 3}},
		{[]string{strings.Repeat("a", 1<<16), "\r", "\r\n", strings.Repeat("\r\n", 1<<10), strings.Repeat("\n\r", 1<<10)}, []int{1 << 16, 1<<16 + 1, 0, 0, 1}},
	} {
		f := New(3)
		for k, p := range c.pieces {
			f.Feed(p)
			if got := f.Rest(); got != c.rests[k] {
				t.Errorf("rest behind %.99q: got %d, want %d", c.pieces[:k+1], got, c.rests[k])
			}
			if again := f.Rest(); again != c.rests[k] {
				t.Errorf("rest behind %.99q, asked again: got %d, want %d", c.pieces[:k+1], again, c.rests[k])
			}
		}
	}
}

// P16.1: Reset leaves no rest: what comes behind it is a line's beginning; how many bytes a line may have stays.
func TestReset(t *testing.T) {
	for _, c := range []struct {
		first  string
		second string
		lines  []api.Framed
		rest   int
	}{
		// Where there is no rest.
		{"", "ab\r\n", of(text("ab")), 0}, {"a\r\n", "ab\r\nc", of(text("ab")), 1}, {"abcd\r\n", "", nil, 0},
		// In the middle of a line.
		{"a", "bcd\r\n", of(text("bcd")), 0}, {"a", "bcde\r\n", of(long), 0}, {"a\r\nb", "\r\n", of(text("")), 0}, {"a", "b", nil, 1}, {"\u00e4"[:1], "\u00e4"[1:] + "\r\n", of(text("\xa4")), 0},
		// Behind a return: no feed makes a line's end of it.
		{"a\r", "\n", nil, 1}, {"a\r", "\nb\r\n", of(bare), 0}, {"\r", "\n\r\n", of(bare), 0}, {"\r", "\r\n", of(text("")), 0}, {"\r\r", "\n\n", nil, 2}, {"a\r\n\r", "b\r\n", of(text("b")), 0},
		// Behind what is too long, bare, or both.
		{"abcdefgh", "abc\r\n", of(text("abc")), 0}, {"abcdefgh", "\r\n", of(text("")), 0}, {"abcdefgh\r", "\n\r\n", of(bare), 0}, {"abcdefgh\r\nabcdefgh", "a\r\n", of(text("a")), 0}, {"a\rb", "c\r\n", of(text("c")), 0}, {"\n", "c\r\n", of(text("c")), 0}, {"abc\ndef\r", "c\r\n", of(text("c")), 0}, {strings.Repeat("a", 1<<16), "abc\r\nd", of(text("abc")), 1},
	} {
		f := New(3)
		f.Feed(c.first)
		f.Reset()
		wantFed(t, f, nil, nil, 0)
		wantFed(t, f, []string{c.second}, c.lines, c.rest)
		f.Reset()
		f.Reset()
		f.Reset()
		wantFed(t, f, []string{"", "abc", "\r\n"}, of(text("abc")), 0)
	}
}

// P16.1: Reset of a new one, and Most ahead of it, are like any other.
func TestResetAndMost(t *testing.T) {
	f := New(3)
	f.Reset()
	wantFed(t, f, []string{"abc\r\n", "abcd\r\n"}, of(text("abc"), long), 0)
	f.Feed("ab\r")
	f.Most(1)
	f.Reset()
	wantFed(t, f, []string{"\n", "\r\n", "a\r\n", "ab\r\n"}, of(bare, text("a"), long), 0)
}

// P16.2: the lines of what comes in one piece, byte by byte, in two pieces, and with empty ones between.
func TestFeed(t *testing.T) {
	for _, c := range samples {
		wantFed(t, New(3), []string{c.came}, c.lines, c.rest)
		wantFed(t, New(3), strings.Split(c.came, ""), c.lines, c.rest)
		var single, apart []string
		for k := range len(c.came) {
			single = append(single, c.came[k:k+1])
			apart = append(apart, "", c.came[k:k+1], "")
		}
		wantFed(t, New(3), single, c.lines, c.rest)
		wantFed(t, New(3), apart, c.lines, c.rest)
		for k := 0; k <= min(len(c.came), 20); k++ {
			wantFed(t, New(3), []string{c.came[:k], c.came[k:]}, c.lines, c.rest)
			wantFed(t, New(3), []string{"", c.came[:k], "", "", c.came[k:], ""}, c.lines, c.rest)
		}
	}
}

// P16.2: what ends with a line's end is followed by what comes behind it as if it came alone.
func TestFeedTwice(t *testing.T) {
	for _, first := range samples {
		if first.rest > 0 {
			continue
		}
		for _, second := range samples {
			f := New(3)
			wantFed(t, f, []string{first.came}, first.lines, 0)
			wantFed(t, f, []string{second.came}, second.lines, second.rest)
			wantFed(t, New(3), []string{first.came + second.came}, slices.Concat(first.lines, second.lines), second.rest)
		}
	}
}

// P16.2: each piece is answered by the lines that are whole by it, none ahead, none twice.
func TestEachPiece(t *testing.T) {
	for _, c := range []struct {
		pieces []string
		lines  [][]api.Framed
	}{
		{[]string{"ab\r", "\nc"}, [][]api.Framed{nil, of(text("ab"))}},
		{[]string{"ab\r", "", "", "\nc", "", "\r\n"}, [][]api.Framed{nil, nil, nil, of(text("ab")), nil, of(text("c"))}},
		{[]string{"a\r", "b\r\n"}, [][]api.Framed{nil, of(bare)}}, {[]string{"a\r", "\r", "\n"}, [][]api.Framed{nil, nil, of(bare)}}, {[]string{"a\r", "\r\n"}, [][]api.Framed{nil, of(bare)}}, {[]string{"\r", "\n", "\n", "\r", "\n"}, [][]api.Framed{nil, of(text("")), nil, nil, of(bare)}},
		{[]string{"\r", "a", "\n", "\r\n"}, [][]api.Framed{nil, nil, nil, of(bare)}},
		{[]string{"a\r\nb", "c\r\nd\r\n", "abcd", "e\r\n"}, [][]api.Framed{of(text("a")), of(text("bc"), text("d")), nil, of(long)}},
		{[]string{"\r\n\r\n", "\r\n", "", "\r\n\r\n\r\n"}, [][]api.Framed{of(text(""), text("")), of(text("")), nil, of(text(""), text(""), text(""))}},
		{[]string{"abc", "d\r\nabc\r", "\n"}, [][]api.Framed{nil, of(long), of(text("abc"))}},
	} {
		f := New(3)
		for k, p := range c.pieces {
			wantLines(t, f, p, c.lines[k])
		}
	}
}

// P16.2: of all bytes just the return and the feed make a line bare; wherever a byte stands, the text has it.
func TestEachByte(t *testing.T) {
	for k := range 0x100 {
		c := string([]byte{byte(k)})
		for _, s := range []string{c, c + "b", "a" + c, "a" + c + "b", c + c, "a" + c + c, "aaaaaaaaaaaa" + c + "b"} {
			want := text(s)
			if k == 0xd || k == 0xa {
				want = bare
			}
			wantFed(t, New(20), []string{s + "\r\n"}, of(want), 0)
			wantFed(t, New(20), []string{s, "\r", "\n"}, of(want), 0)
			wantFed(t, New(20), []string{"x\r\n" + s, "\r\ny"}, of(text("x"), want), 1)
		}
		// Between the bytes of a line's end, and behind it.
		if k != 0xd && k != 0xa {
			wantFed(t, New(20), []string{"\r" + c + "\n"}, nil, 3)
			wantFed(t, New(20), []string{"\r", c, "\n"}, nil, 3)
		}
		wantFed(t, New(20), []string{"\r\n" + c}, of(text("")), 1)
	}
}

// P16.2: a line of many more bytes than it may have, byte by byte, is told as one.
func TestManyBytes(t *testing.T) {
	f := New(api.MaxLine)
	for range 1 << 20 {
		if lines := f.Feed("\xff"); len(lines) > 0 {
			t.Fatal(lines)
		}
	}
	if f.Rest() != 1<<20 {
		t.Error(f.Rest())
	}
	wantFed(t, f, []string{"\r", "\na", "\r\n"}, of(long, text("a")), 0)
	s := strings.Repeat("ab\r\n", 1<<16)
	if lines := f.Feed(s); len(lines) != 1<<16 || lines[0] != text("ab") || lines[1<<16-1] != text("ab") {
		t.Error(len(lines))
	}
}

// P16.2: framers know nothing of one another.
func TestFramersApart(t *testing.T) {
	f, g := New(3), New(1)
	f.Feed("a\r")
	wantFed(t, g, []string{"\n"}, nil, 1)
	wantFed(t, f, []string{"\nb"}, of(text("a")), 1)
	g.Most(9)
	g.Reset()
	wantFed(t, f, []string{"cde\r\n"}, of(long), 0)
	wantFed(t, g, []string{"cde\r\n"}, of(text("cde")), 0)
}

// P16.3: each of a list has a line's end behind, whatever is in it.
func TestPrint(t *testing.T) {
	for _, c := range []struct {
		l    []string
		want string
	}{
		{nil, ""}, {[]string{}, ""}, {[]string{""}, "\r\n"}, {[]string{"a"}, "a\r\n"}, {[]string{"a b"}, "a b\r\n"},
		{[]string{"", ""}, "\r\n\r\n"}, {[]string{"a", "b"}, "a\r\nb\r\n"}, {[]string{"a", "", "b"}, "a\r\n\r\nb\r\n"}, {[]string{"", "a", ""}, "\r\na\r\n\r\n"}, {[]string{"c", "a", "b", "a"}, "c\r\na\r\nb\r\na\r\n"},
		{[]string{"\r"}, "\r\r\n"}, {[]string{"\n"}, "\n\r\n"}, {[]string{"\r\n"}, "\r\n\r\n"}, {[]string{"a\r\nb", "c\r", "\nd"}, "a\r\nb\r\nc\r\r\n\nd\r\n"},
		{[]string{"\u00e4", "\x80\xff", "\x00"}, "\u00e4\r\n\x80\xff\r\n\x00\r\n"}, {[]string{"."}, ".\r\n"},
		{[]string{strings.Repeat("a", 5000), "b"}, strings.Repeat("a", 5000) + "\r\nb\r\n"}, {slices.Repeat([]string{"ab"}, 5000), strings.Repeat("ab\r\n", 5000)},
	} {
		if got := Print(c.l); got != c.want {
			t.Errorf("%.199q: got %.199q, want %.199q", c.l, got, c.want)
		}
	}
}

// P16.5: in which pieces bytes come does not matter: all short rows of bytes, cut at all sets of places, are as the chapter's words, done slowly, tell it of one piece.
func TestPieces(t *testing.T) {
	rows.Texts([]string{"a", "\r", "\n"}, 7, func(s string) {
		slow := slowFramer{most: 2}
		lines := slow.feed(s)
		rest := slow.rest()
		for places := range 1 << max(0, len(s)-1) {
			var pieces []string
			from := 0
			for k := 1; k <= len(s); k++ {
				if k == len(s) || places>>(k-1)&1 == 1 {
					pieces = append(pieces, s[from:k])
					from = k
				}
			}
			wantFed(t, New(2), pieces, lines, rest)
		}
	})
}

// P16.1, P16.2: all short rows of calls are answered as the chapter's words, done slowly, tell it.
func TestCalls(t *testing.T) {
	parts := map[string]string{"a": "a", "r": "\r", "n": "\n", "e": "\r\n", "l": "\xff\r\n\x00a", "-": ""}
	rows.Texts([]string{"a", "r", "n", "e", "l", "-", "0", "2", "x"}, 6, func(calls string) {
		f, slow := New(1), slowFramer{most: 1}
		for k := range len(calls) {
			switch c := calls[k]; c {
			case 'x':
				f.Reset()
				slow.reset()
			case '0', '2':
				f.Most(int(c - '0'))
				slow.most = int(c - '0')
			default:
				got, want := f.Feed(parts[calls[k:k+1]]), slow.feed(parts[calls[k:k+1]])
				if !slices.Equal(got, want) {
					t.Errorf("%s at %d: got %s, want %s", calls, k, shown(got), shown(want))
				}
			}
		}
		if got, want := f.Rest(), slow.rest(); got != want {
			t.Errorf("%s: rest: got %d, want %d", calls, got, want)
		}
	})
}

// P16.5: lines that are printed come back, if they are neither bare nor too long; of others it is told that they are.
func TestPrintedComeBack(t *testing.T) {
	parts := []string{"", "a", "abc", "\x00\x80\xff", "\u00e4", ".", "abcd", "a\r", "\rb", "\n", "ab\r\n\nc"}
	var l []string
	for _, a := range parts {
		for _, b := range parts {
			for _, c := range parts {
				l = append(l[:0], a, b, c)
				var want []api.Framed
				for _, s := range l {
					for _, piece := range strings.Split(s, "\r\n") {
						want = append(want, slowFramed(piece, 3))
					}
				}
				wantFed(t, New(3), []string{Print(l)}, want, 0)
				wantFed(t, New(3), strings.SplitAfter(Print(l), "\r"), want, 0)
			}
		}
	}
}

// P16.5: printed with what it was fed, all of it comes back, line by line.
func TestFedIsPrinted(t *testing.T) {
	for _, c := range samples {
		var l []string
		for _, line := range c.lines {
			if line.Long || line.Bare {
				l = nil
				break
			}
			l = append(l, line.Text)
		}
		if l != nil && Print(l) != c.came[:len(c.came)-c.rest] {
			t.Errorf("%q: got %q", c.came, Print(l))
		}
	}
}

// lent is a string that is made of the bytes themselves, so that it shows when they change.
func lent(b []byte) string { return unsafe.String(unsafe.SliceData(b), len(b)) }

// spoil overwrites texts.
func spoil(texts ...[]byte) {
	for _, text := range texts {
		for at := range text {
			text[at] = 'X'
		}
	}
}

// P16.4: nothing of a piece is kept, nor answered: it may change as soon as it was fed.
func TestPiecesAreNotKept(t *testing.T) {
	for _, c := range samples {
		for k := 0; k <= min(len(c.came), 20); k++ {
			f := New(3)
			first, second := []byte(c.came[:k]), []byte(c.came[k:])
			lines := f.Feed(lent(first))
			if string(first) != c.came[:k] {
				t.Errorf("%q was changed to %q", c.came[:k], first)
			}
			spoil(first)
			lines = append(lines, f.Feed(lent(second))...)
			if string(second) != c.came[k:] {
				t.Errorf("%q was changed to %q", c.came[k:], second)
			}
			spoil(second)
			if !slices.Equal(lines, c.lines) || f.Rest() != c.rest {
				t.Errorf("%.99q, cut at %d: got %s, %d, want %s, %d", c.came, k, shown(lines), f.Rest(), shown(c.lines), c.rest)
			}
		}
	}
}

// P16.4: what was answered stays as it was, whatever comes behind it, and whatever is done to it changes nothing.
func TestAnswersAreNew(t *testing.T) {
	f := New(3)
	first := f.Feed("ab\r\ncd\r\nabcd\r\ne")
	want := of(text("ab"), text("cd"), long)
	for k, s := range []string{"", "fg\r\n", "\r\nXXX\r\nYYY\r\nZZZ\r\n", "X\rX\r\nXXXXXXXXX", "\r", "\nXX\r\n"} {
		f.Feed(s)
		f.Most(3 + k%2)
		if !slices.Equal(first, want) {
			t.Fatalf("behind %q: got %s, want %s", s, shown(first), shown(want))
		}
	}
	f.Feed("XXX")
	f.Reset()
	f.Feed("YYY\r\n")
	if !slices.Equal(first, want) {
		t.Fatalf("behind Reset: got %s, want %s", shown(first), shown(want))
	}
	f.Feed("h")
	second := f.Feed("i\r\nj\r\nk")
	for k := range first[:cap(first)] {
		first[:cap(first)][k] = text("XX")
	}
	if want := of(text("hi"), text("j")); !slices.Equal(second, want) {
		t.Errorf("got %s, want %s", shown(second), shown(want))
	}
	for k := range second[:cap(second)] {
		second[:cap(second)][k] = text("YY")
	}
	wantFed(t, f, []string{"l\r\n"}, of(text("kl")), 0)
}

// P16.4: no two texts of lines, nor of the printed ones and those handed in, share memory.
func TestTextsAreApart(t *testing.T) {
	begins := map[*byte]bool{}
	f, piece := New(9), "ab\r\nab\r\ncd\r\n"
	for range 3 {
		begins[unsafe.StringData(piece)] = true
		for _, line := range ask(f, piece, "e", "f\r\n", "ab\r\n") {
			if at := unsafe.StringData(line.Text); begins[at] {
				t.Errorf("%q: its memory is another one's", line.Text)
			} else {
				begins[at] = true
			}
		}
	}
}

// P16.4: Print keeps nothing of what is handed in, and changes neither it nor the room behind it.
func TestPrintedIsNew(t *testing.T) {
	for _, l := range [][]string{nil, {""}, {"a"}, {"ab", "", "c\r\n"}, {strings.Repeat("ab", 3000)}} {
		var texts [][]byte
		var lentTexts []string
		for _, s := range append(slices.Clone(l), "room", "behind") {
			texts = append(texts, []byte(s))
			lentTexts = append(lentTexts, lent(texts[len(texts)-1]))
		}
		got := Print(lentTexts[:len(l)])
		if !slices.Equal(lentTexts[:len(l)], l) || lentTexts[len(l)] != "room" || lentTexts[len(l)+1] != "behind" {
			t.Errorf("%.99q was changed to %.99q", l, lentTexts)
		}
		want := Print(l)
		spoil(texts...)
		if got != want {
			t.Errorf("%.99q: got %.99q behind a change, want %.99q", l, got, want)
		}
	}
}
