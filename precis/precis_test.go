package precis

import (
	"math"
	"strings"
	"testing"

	"pillarbox/api"
	"pillarbox/fold"
	"pillarbox/norm"
	"pillarbox/rows"
	"pillarbox/ucd"
	"pillarbox/utf"
)

// signs are all that ASCII has but letters, digits, blanks and controls.
const signs = "!\"#$%&'()*+,-./:;<=>?@[\\]^_`{|}~"

// long is how many characters a long name has: names have no limit of their own.
const long = 5000

// broad tells s in wide characters.
func broad(s string) string {
	return strings.Map(func(r rune) rune { return r + 0xfee0 }, s)
}

// right are names that are right, and what each is brought to.
var right = map[string]string{
	// The chapter's first.
	"Ann.B": "ann.b",
	// One character, of each kind.
	"a": "a", "Z": "z", "0": "0", "9": "9", "!": "!", "~": "~", "-": "-", ".": ".", "@": "@", "\"": "\"", "\u00e4": "\u00e4", "\u00c4": "\u00e4", "\u00df": "\u00df", "\u0301": "\u0301", "\u3099": "\u3099", "\u05d0": "\u05d0", "\u0627": "\u0627", "\u0915": "\u0915", "\u3042": "\u3042", "\u30a2": "\u30a2", "\u4e00": "\u4e00", "\uac00": "\uac00", "\u1100": "\u1100", "\u06f1": "\u06f1", "\U00010428": "\U00010428",
	// Many, and all of ASCII.
	"abcdefghijklmnopqrstuvwxyz": "abcdefghijklmnopqrstuvwxyz", "ABCDEFGHIJKLMNOPQRSTUVWXYZ": "abcdefghijklmnopqrstuvwxyz", "0123456789": "0123456789", signs: signs, strings.Repeat("Ab", long): strings.Repeat("ab", long), strings.Repeat("\u4e00", long): strings.Repeat("\u4e00", long),
	"a!~": "a!~", "o'neill+tag": "o'neill+tag", "first.last@example": "first.last@example", "..": "..", "a..b.": "a..b.",
	// What a label may not have, and a name may: bad dashes, a Mark first, the ACE sign, any number of bytes.
	"-a-": "-a-", "ab--c": "ab--c", "--": "--", "XN--4CA": "xn--4ca", "xn--!": "xn--!", "\u0308a": "\u0308a", "\u05b0": "\u05b0", "\u00e4-": "\u00e4-",
	// Great letters of all scripts.
	"\u00c0\u00d6\u00d8\u00de": "\u00e0\u00f6\u00f8\u00fe", "\u0391\u0392\u03a9": "\u03b1\u03b2\u03c9", "\u0410\u0419\u042f": "\u0430\u0439\u044f", "\u1ea4": "\u1ea5", "\U00010400\U00010427": "\U00010428\U0001044f", "aB\u00c4\u03b1\u0410": "ab\u00e4\u03b1\u0430",
	// What has no Class of its own, but is folded to what has: wide ones, and ones that are Out.
	"\uff21\u0308": "\u00e4", broad("Ann.B"): "ann.b", broad(signs): signs, broad("AZaz09"): "azaz09", "a\uff01\uff5e": "a!~", "\u212a": "k", "\u212b": "\u00e5", "\u0958": "\u0915\u093c", "a\u212a\uff11": "ak1",
	// What is joined.
	"A\u0308": "\u00e4", "a\u0308\u0323": "\u00e4\u0323", "\u30ab\u3099": "\u30ac", "\u1100\u1161\u11a8": "\uac01", "\u0418\u0306": "\u0439", "\u00c2\u0301": "\u1ea5",
	// What needs something, and has it.
	"l\u00b7l": "l\u00b7l", "L\u00b7L": "l\u00b7l", "\uff2c\u00b7l": "l\u00b7l", "al\u00b7la": "al\u00b7la", "\u0915\u094d\u200d": "\u0915\u094d\u200d", "\u0915\u094d\u200c\u0937": "\u0915\u094d\u200c\u0937", "\u0628\u200c\u0628": "\u0628\u200c\u0628", "\u0375\u03b1": "\u0375\u03b1", "\u0375\u0391": "\u0375\u03b1", "\u05d0\u05f3": "\u05d0\u05f3", "\u05d0\u05f4\u05d1": "\u05d0\u05f4\u05d1", "\u30a2\u30fb": "\u30a2\u30fb", "\u30fb.\u4e00": "\u30fb.\u4e00", "\u0627\u0660\u0669": "\u0627\u0660\u0669", "a\u06f0\u06f9": "a\u06f0\u06f9", "\u0627\u06f1": "\u0627\u06f1",
	// Directions that may stand together; and any that have none from right to left.
	"\u05d0\u05d1": "\u05d0\u05d1", "\u05d01": "\u05d01", "\u05d0.1": "\u05d0.1", "\u05d0-\u05d1": "\u05d0-\u05d1", "\u05d0\u05b0": "\u05d0\u05b0", "\u0627!\u0628": "\u0627!\u0628", "\u0627\u064b": "\u0627\u064b", "\u0627\u05d0\uff11": "\u0627\u05d01", "1a": "1a", ".a1!": ".a1!", "!1": "!1", "\u0301-1": "\u0301-1",
}

// wrong are names that have one error, and that which is told.
var wrong = map[string]api.Errno{
	// Bytes that are no characters.
	"\xff": api.ErrUtf, "\x80": api.ErrUtf, "a\xff": api.ErrUtf, "\xffa": api.ErrUtf, "\xc3": api.ErrUtf, "\u00e4\xc3": api.ErrUtf, "\xc0\xae": api.ErrUtf, "\xc1\xa1": api.ErrUtf, "\xe3\x80": api.ErrUtf, "a\xed\xa0\x80b": api.ErrUtf, "\xed\xbf\xbf": api.ErrUtf, "\xf4\x90\x80\x80": api.ErrUtf, "\xf0\x80\x80\x80": api.ErrUtf, strings.Repeat("a", long) + "\xff": api.ErrUtf,
	// Nothing.
	"": api.ErrEmpty,
	// Blanks and controls: the chapter's second, and what stands beside the ends of what may be there.
	"a b": api.ErrChar, " ": api.ErrChar, " a": api.ErrChar, "a ": api.ErrChar, "\x1f": api.ErrChar, "\x00": api.ErrChar, "a\tb": api.ErrChar, "a\r\n": api.ErrChar, "\x7f": api.ErrChar, "a\x7f": api.ErrChar, "\u0080": api.ErrChar, "\u00a0": api.ErrChar, "a\u00a0b": api.ErrChar, strings.Repeat("a", long) + " ": api.ErrChar,
	// What is but alike and is not folded, other signs, and what is in no table.
	"\ufb01": api.ErrChar, "\ufb02x": api.ErrChar, "\u00b2": api.ErrChar, "a\u00b3": api.ErrChar, "\u00d7": api.ErrChar, "\u00f7": api.ErrChar, "\u3002": api.ErrChar, "a\u3002b": api.ErrChar, "\uff5f": api.ErrChar, "\uff65": api.ErrChar, "\uff00": api.ErrChar, "\u0378": api.ErrChar, "\u0305": api.ErrChar, "\u2010": api.ErrChar, "\u3000": api.ErrChar, "\ue000": api.ErrChar, "\ufffd": api.ErrChar, "\ufeff": api.ErrChar, "\U0010ffff": api.ErrChar,
	// What misses what it needs.
	"\u00b7": api.ErrChar, "a\u00b7": api.ErrChar, "l\u00b7": api.ErrChar, "\u00b7l": api.ErrChar, "l\u00b7a": api.ErrChar, "l\u00b7l\u00b7": api.ErrChar, "\u200d": api.ErrChar, "a\u200d": api.ErrChar, "\u0915\u200d\u094d": api.ErrChar, "\u200c": api.ErrChar, "\u0628\u200c": api.ErrChar, "a\u200cb": api.ErrChar, "\u0375": api.ErrChar, "\u03b1\u0375": api.ErrChar, "\u0375a": api.ErrChar, "\u05f3": api.ErrChar, "a\u05f4": api.ErrChar, "\u05f3\u05d0": api.ErrChar, "\u30fb": api.ErrChar, "a\u30fbb": api.ErrChar,
	"\u0627\u0661\u06f1": api.ErrChar, "\u06f1\u0661": api.ErrChar,
	// Directions that may not stand together.
	"\u05d0a": api.ErrBidi, "a\u05d0": api.ErrBidi, "A\u05d0": api.ErrBidi, "\u05d0A": api.ErrBidi, "\u05d0\u00c4": api.ErrBidi, "1\u05d0": api.ErrBidi, ".\u05d0": api.ErrBidi, "\u05b0\u05d0": api.ErrBidi, "\u05d0.": api.ErrBidi, "\u05d0-": api.ErrBidi, "\u05d0!": api.ErrBidi, "\u0661": api.ErrBidi, "a\u0661": api.ErrBidi, "1\u0661": api.ErrBidi, "\u0627\u06611": api.ErrBidi, "\u06271\u0661": api.ErrBidi, "\u0627a\u0628": api.ErrBidi, "\u05d0" + strings.Repeat("1", long) + "a": api.ErrBidi,
}

// wrongTwice are names that have two errors, and the one that is told.
var wrongTwice = map[string]api.Errno{
	// Bytes that are no characters are told ahead of all.
	" \xff": api.ErrUtf, "\xff ": api.ErrUtf, "\u00a0\xff": api.ErrUtf, "a\u00b7\xff": api.ErrUtf, "\xff\u200d": api.ErrUtf, "\u05d0a\xff": api.ErrUtf, "\xff\u05d0a": api.ErrUtf, "\u05d0 a\xff": api.ErrUtf, "\u05d0\xff": api.ErrUtf, "\u0627\u0661\u06f1\x80": api.ErrUtf,
	// A character that may not be there, or misses what it needs, is told ahead of what a direction asks, wherever it stands.
	"\u05d0a ": api.ErrChar, " \u05d0a": api.ErrChar, "\u05d0 a": api.ErrChar, "\u05d0 ": api.ErrChar, " \u05d0": api.ErrChar, "\u0661\x7f": api.ErrChar, "\u05d0a\ufb01": api.ErrChar, "a\u00a0\u05d0": api.ErrChar, "\u05d0\u00b2": api.ErrChar, "\u05d0a\u00b7": api.ErrChar, "\u05d0l\u00b7a": api.ErrChar, "\u05d0\u30fb": api.ErrChar, "a\u05f3": api.ErrChar, "\u05d0a\u05f3": api.ErrChar, "a\u0661\u06f1": api.ErrChar, "\u200d\u05d0a": api.ErrChar, "\u0378\u05d0": api.ErrChar,
	// But what has what it needs does not hide a direction.
	"\u05d0l\u00b7l": api.ErrBidi, "a\u05d0\u05f3": api.ErrBidi, "\u05d0\u30fb\u30a2": api.ErrBidi, "\u0375\u03b1\u05d0": api.ErrBidi, "\u0628\u200c\u0628a": api.ErrBidi, "\u06f1\u05d0": api.ErrBidi,
}

// wantName holds what s is brought to against what it must be.
func wantName(t *testing.T, u ucd.Table, s, want string, e api.Errno) {
	t.Helper()
	if got, err := Name(u, s); got != want || err != e {
		t.Errorf("Name of %+.99q: got %+.99q, %d, want %+.99q, %d", s, got, err, want, e)
	}
}

// P10.1: the ends of ASCII, great letters that are made of nothing, of others, of something Soft, or Out, and label's.
func TestChar(t *testing.T) {
	u := ucd.New()
	for _, r := range "azAZ09" + signs {
		if !Char(u, r) {
			t.Errorf("Char of %x: got false", r)
		}
	}
	for _, r := range []rune{
		0x21, 0x22, 0x2f, 0x30, 0x3a, 0x40, 0x41, 0x5a, 0x5b, 0x60, 0x7b, 0x7d, 0x7e, // ASCII
		0xc0, 0xc4, 0xd6, 0xd8, 0xde, 0x391, 0x3a9, 0x410, 0x419, 0x42f, 0x1ea4, 0x10400, 0x10427, // great ones
		0xdf, 0xe4, 0xff, 0x3b1, 0x430, 0x439, 0x1ea5, 0x10428, // small ones
		0x5d0, 0x627, 0x915, 0x1100, 0x3042, 0x30ab, 0x30ac, 0x4e00, 0x9fff, 0xac00, 0xd7a3, // letters that are neither
		0x301, 0x308, 0x5b0, 0x64b, 0x93c, 0x94d, 0x3099, // marks
		0x660, 0x669, 0x6f0, 0x6f9, // digits, though they need something
	} {
		if !Char(u, r) {
			t.Errorf("Char of %x: got false", r)
		}
	}
	for _, r := range []rune{
		0, 9, 0xa, 0xd, 0x1f, 0x20, 0x7f, 0x80, 0x9f, 0xa0, // blanks and controls
		0xff21, 0xff3a, 0x212a, 0x212b, // great ones that are Soft, or Out
		0xff01, 0xff0d, 0xff10, 0xff41, 0xff5a, 0xff5e, 0xfb01, 0xfb02, 0xb2, 0xb3, 0x958, // others that are
		0xb7, 0x375, 0x5f3, 0x5f4, 0x200c, 0x200d, 0x30fb, // what needs something
		0xd7, 0xf7, 0x3002, // signs that are not ASCII
		0x305, 0x378, 0x3a2, 0x5eb, 0x3097, 0xa000, 0xd7a4, 0xe000, 0x10450, 0xff00, 0xff5f, 0xfffd, 0x10ffff, // in no table
		math.MinInt32, math.MinInt32 + 'a', -'a', -0x21, -1, 0xd800, 0xdfff, 0x110000, 0x110061, 0x1000000 + 'a', math.MaxInt32, // no characters
	} {
		if Char(u, r) {
			t.Errorf("Char of %x: got true", r)
		}
	}
}

// P10.1: all numbers from below the first character to behind the last one.
func TestCharOfAll(t *testing.T) {
	s := newSlow()
	for r := rune(-0x1000); r < 0x111000; r++ {
		if got := Char(s.u, r); got != s.char(r) {
			t.Errorf("Char of %x: got %v", r, got)
		}
	}
}

// P10.2: what is right as it stands, great letters too; what is not right until it is folded is not; no direction counts.
func TestClass(t *testing.T) {
	u := ucd.New()
	for _, s := range []string{
		"a", "A", "Ann.B", "A\u00c4", "a\u0308", "A\u0308\u0323", signs, "\u0391\u0410\U00010400", "\u1ea4", "-a-", "\u0301", "xn--!",
		"l\u00b7l", "\u0915\u094d\u200d", "\u0628\u200c\u0628", "\u0375\u03b1", "\u0375\u0391", "\u05d0\u05f3", "\u30a2\u30fb", "\u0661\u0662", "\u06f1",
		"\u05d0a", "a\u05d0", "1\u05d0", "\u05d0.", "\u0661", "\u0627\u06611", "\u05d0l\u00b7l", "a\u05d0\u05f3",
	} {
		if e := Class(u, s); e != api.OK {
			t.Errorf("Class of %+q: got %d", s, e)
		}
	}
	for _, s := range []string{
		"\uff21", "\uff41", "a\uff01", "\uff11", "\u212a", "\u212b", "a\u0958", broad("Ann.B"),
		"L\u00b7L", "l\u00b7L", "L\u00b7l", "\uff4c\u00b7l", "\u0375\u212b",
	} {
		if e := Class(u, s); e != api.ErrChar {
			t.Errorf("Class of %+q: got %d", s, e)
		}
	}
}

// P10.2: each error alone, and of two the one that is told.
func TestClassOfWrong(t *testing.T) {
	u := ucd.New()
	for _, names := range []map[string]api.Errno{wrong, wrongTwice} {
		for s, want := range names {
			// All of these are as wrong ahead of folding, but for a direction, which is not asked here.
			if want == api.ErrBidi {
				want = api.OK
			}
			if e := Class(u, s); e != want {
				t.Errorf("Class of %+.99q: got %d, want %d", s, e, want)
			}
		}
	}
}

// P10.3: what is right is folded.
func TestNameOfRight(t *testing.T) {
	u := ucd.New()
	for s, want := range right {
		wantName(t, u, s, want, api.OK)
	}
}

// P10.3, W3: each error alone, and of two the one that is told; nothing that is wrong is Alike, itself neither.
func TestNameOfWrong(t *testing.T) {
	u := ucd.New()
	for _, names := range []map[string]api.Errno{wrong, wrongTwice} {
		for s, e := range names {
			wantName(t, u, s, "", e)
			if Alike(u, s, s) || Alike(u, s, "a") || Alike(u, "a", s) || Alike(u, s, "") || Alike(u, "", s) {
				t.Errorf("%+.99q is Alike", s)
			}
		}
	}
}

// P10.3: a direction is asked of what is folded, as all else is.
func TestNameOfFolded(t *testing.T) {
	u := ucd.New()
	for s, want := range map[string]api.Errno{"\u05d0\uff21": api.ErrBidi, "\u05d0\u212a": api.ErrBidi, "\u05d0\uff01": api.ErrBidi, "\uff21\u05d0": api.ErrBidi, "\uff11\u05d0": api.ErrBidi, "\uff2c\u00b7a": api.ErrChar, "\uff21\ufb01": api.ErrChar, "\uff21 \u05d0": api.ErrChar, "\uff21\xff": api.ErrUtf} {
		wantName(t, u, s, "", want)
	}
	for s, want := range map[string]string{"\u05d0\uff11": "\u05d01", "\u05d0\uff0d\u05d1": "\u05d0-\u05d1", "\u05d0\uff01\u05d1": "\u05d0!\u05d1"} {
		wantName(t, u, s, want, api.OK)
	}
}

// P10.3: all characters of the tables and as many behind them, alone, and where they have a direction ahead of them.
func TestNameOfAll(t *testing.T) {
	s := newSlow()
	for r := rune(0); r <= 0x10fff; r++ {
		if !utf.Right(r) {
			continue
		}
		for _, text := range []string{string(r), "\u05d0" + string(r)} {
			want, e := s.name(text)
			wantName(t, s.u, text, want, e)
			if got := Class(s.u, text); got != s.class(text) {
				t.Errorf("Class of %+q: got %d", text, got)
			}
		}
	}
}

// P10.2, P10.3: all short texts of what the errors are about.
func TestShortTexts(t *testing.T) {
	s := newSlow()
	pieces := []string{"a", "L", "l", "1", "!", "-", " ", "\x7f", "\u00b7", "\u0308", "\u00c4", "\uff21", "\u212b", "\ufb01", "\u05d0", "\u05f3", "\u0628", "\u0661", "\u06f1", "\u094d", "\u200c", "\u200d", "\u0375", "\u03b1", "\u30fb", "\u30a2", "\xc3", "\xff"}
	check := func(text string) {
		want, e := s.name(text)
		wantName(t, s.u, text, want, e)
		if got := Class(s.u, text); got != s.class(text) {
			t.Errorf("Class of %+q: got %d", text, got)
		}
	}
	rows.Texts(pieces, 3, check)
	rows.Texts([]string{"a", "1", "-", " ", "\u0308", "\u05d0", "\u0661", "\u06f1", "\u0628", "\u200c"}, 5, check)
}

// P10.3: names that are the same but for great letters, normal forms and width.
func TestAlike(t *testing.T) {
	u := ucd.New()
	groups := [][]string{
		{"Ann.B", "ann.b", "ANN.B", "ann.B", broad("Ann.B"), "a\uff2en.b"},
		{"\u00e4", "\u00c4", "a\u0308", "A\u0308", "\uff21\u0308", "\uff41\u0308"},
		{"k", "K", "\u212a", "\uff2b"},
		{"\u00e5", "\u00c5", "\u212b", "A\u030a", "\uff41\u030a"},
		{"\u0915\u093c", "\u0958"},
		{"\uac00", "\u1100\u1161"},
		{"\u1ea5", "\u1ea4", "\u00c2\u0301", "a\u0302\u0301"},
		{"\u00e4\u0323", "a\u0308\u0323", "A\u0323\u0308"},
		{"l\u00b7l", "L\u00b7L", "\uff2c\u00b7\uff4c"},
		{"\u05d01", "\u05d0\uff11"},
		{"a!~", "A\uff01\uff5e"},
		{"ann"}, {"annb"}, {"b.ann"}, {"a"}, {"ss"}, {"\u00df"}, {"xn--4ca", "XN--4CA"}, {"l.l"}, {"\u05d0"}, {"\u06f1"}, {"\u30a2"}, {"\u3042"},
	}
	for at, group := range groups {
		for _, one := range group {
			for other, names := range groups {
				for _, two := range names {
					if got := Alike(u, one, two); got != (at == other) {
						t.Errorf("Alike of %+q and %+q: got %v", one, two, got)
					}
				}
			}
		}
	}
}

// P10.3: what is wrong is like nothing, not even where it is folded alike, or tells the same error.
func TestAlikeOfWrong(t *testing.T) {
	u := ucd.New()
	bad := []string{"", " ", "a b", "A B", "\x7f", "\u05d0a", "\u05d0A", "\xff", "\u00a0", "a\u00b7", "A\u00b7", "\ufb01", "fi\xff"}
	good := []string{"a", "ab", "fi", "\u00e4", "\u05d0", "k", "a.b"}
	for _, one := range bad {
		for _, other := range append(good, bad...) {
			if Alike(u, one, other) || Alike(u, other, one) {
				t.Errorf("Alike of %+q and %+q: got true", one, other)
			}
		}
	}
}

// P10.3: all pairs of short texts.
func TestAlikeOfShortTexts(t *testing.T) {
	s := newSlow()
	var all []string
	rows.Texts([]string{"a", "A", "\uff21", "\u0308", "\u00c4", " ", "\u05d0", "k", "\u212a", "\xff"}, 2, func(text string) { all = append(all, text) })
	for _, one := range all {
		for _, other := range all {
			if got := Alike(s.u, one, other); got != s.alike(one, other) {
				t.Errorf("Alike of %+q and %+q: got %v", one, other, got)
			}
		}
	}
}

// P10.4: a Name's Name is itself, and has a right Class; what is folded alike has one Name, or the same error.
func TestFollows(t *testing.T) {
	u := ucd.New()
	check := func(s string) {
		name, e := Name(u, s)
		if e == api.OK {
			wantName(t, u, name, name, api.OK)
			if Class(u, name) != api.OK || !Alike(u, s, name) || !Alike(u, s, s) {
				t.Errorf("%+.99q: its Name %+.99q is not right, or not Alike", s, name)
			}
		}
		f, is := fold.Fold(u, s)
		if !is {
			return
		}
		wantName(t, u, f, name, e)
		for _, form := range []func(ucd.Table, string) (string, bool){norm.NFC, norm.NFD} {
			same, _ := form(u, s)
			wantName(t, u, same, name, e)
		}
	}
	for s := range right {
		check(s)
		wantName(t, u, strings.ToUpper(s), right[s], api.OK)
	}
	for _, names := range []map[string]api.Errno{wrong, wrongTwice} {
		for s := range names {
			check(s)
		}
	}
	rows.Texts([]string{"a", "A", "\uff21", "\u0308", "\u0323", "\u00c4", "\u212b", "\u0958", " ", "\u05d0", "\u00b7", "L", "\u200d", "\u094d", "\xff"}, 4, check)
}

// W2: of the same arguments the same is told, and by another table.
func TestSameAgain(t *testing.T) {
	u, again := ucd.New(), ucd.New()
	for s, want := range right {
		for range 3 {
			wantName(t, u, s, want, api.OK)
			wantName(t, again, s, want, api.OK)
		}
	}
}

// W1: long texts of what is looked around for end soon.
func TestLong(t *testing.T) {
	u := ucd.New()
	const n = 60000
	for _, piece := range []string{"a", "A\u0308", "l\u00b7l", "\u0628\u200c", "\u0301", "\u0661", "\u05d0\u05f3", "\u30a2\u30fb", "\u0375\u03b1", "\u0627\u064b", "\u0915\u094d\u200d", "\u00b7", " ", "\u200c", "\xff"} {
		s := strings.Repeat(piece, n)
		once := Class(u, piece+piece+piece)
		if e := Class(u, s); e != once {
			t.Errorf("Class of many %+q: got %d, of three %d", piece, e, once)
		}
		_, three := Name(u, piece+piece+piece)
		if _, e := Name(u, s); e != three {
			t.Errorf("Name of many %+q: got %d, of three %d", piece, e, three)
		}
	}
}
