package label

import (
	"math"
	"slices"
	"strings"
	"testing"

	"pillarbox/api"
	"pillarbox/norm"
	"pillarbox/puny"
	"pillarbox/rows"
	"pillarbox/ucd"
	"pillarbox/utf"
)

// far is how many letters make the numbers too great for Punycode, if deseret is among them.
const far = 32306

// deseret is the first small letter of a script that stands far behind all others.
const deseret = "\U00010428"

// a tells n letters.
func a(n int) string { return strings.Repeat("a", n) }

// long is a label of letters alone that has as many as may be.
var long = a(63)

// right are labels that are right, and their forms; the forms by ASCII were made by another writer of Punycode.
var right = []struct{ s, ascii, wide string }{
	// Of ASCII alone.
	{"a", "a", "a"},
	{"Abc", "abc", "abc"},
	{"ABC-xyz-019", "abc-xyz-019", "abc-xyz-019"},
	{"0", "0", "0"},
	{"a-b", "a-b", "a-b"},
	{"ab-c", "ab-c", "ab-c"},
	{"abc-d", "abc-d", "abc-d"},
	{"a--b", "a--b", "a--b"},
	{"abc--d", "abc--d", "abc--d"},
	{"xn-a", "xn-a", "xn-a"},
	{"xna-b", "xna-b", "xna-b"},
	{"xn", "xn", "xn"},
	{long, long, long},
	{strings.ToUpper(long), long, long},
	// Of many scripts: the chapter's first.
	{"B\u00dcCHER", "xn--bcher-kva", "b\u00fccher"},
	{"B\u00dccher", "xn--bcher-kva", "b\u00fccher"},
	{"b\u00fccher", "xn--bcher-kva", "b\u00fccher"},
	{"\u00e4", "xn--4ca", "\u00e4"},
	{"\u03b1\u03b2\u03b3", "xn--mxacd", "\u03b1\u03b2\u03b3"},
	{"\u0391\u0392\u0393", "xn--mxacd", "\u03b1\u03b2\u03b3"},
	{"\u041f\u0420\u0418\u043c\u0435\u0440", "xn--e1afmkfd", "\u043f\u0440\u0438\u043c\u0435\u0440"},
	{"\u05d3\u05d5\u05d2\u05de\u05d4", "xn--6dbbec0c", "\u05d3\u05d5\u05d2\u05de\u05d4"},
	{"\u0645\u062b\u0627\u0644", "xn--mgbh0fb", "\u0645\u062b\u0627\u0644"},
	{"\u0915\u094d\u0937", "xn--11b2ezc", "\u0915\u094d\u0937"},
	{"\u304b\u306a", "xn--u8j2c", "\u304b\u306a"},
	{"\u30ab\u30ac", "xn--lckc", "\u30ab\u30ac"},
	{"\u4e2d\u6587", "xn--fiq228c", "\u4e2d\u6587"},
	{"\u65e5\u672c\u8a9e", "xn--wgv71a119e", "\u65e5\u672c\u8a9e"},
	{"\ud55c\uad6d", "xn--3e0b707e", "\ud55c\uad6d"},
	{"\U00010400\U00010427", "xn--hj8cuc", "\U00010428\U0001044f"},
	// By the ACE sign.
	{"xn--bcher-kva", "xn--bcher-kva", "b\u00fccher"},
	{"XN--bcher-KVA", "xn--bcher-kva", "b\u00fccher"},
	{"Xn--BCHER-kvA", "xn--bcher-kva", "b\u00fccher"},
	{"xN--4CA", "xn--4ca", "\u00e4"},
	{"xn--mxacd", "xn--mxacd", "\u03b1\u03b2\u03b3"},
	{"xn--e1afmkfd", "xn--e1afmkfd", "\u043f\u0440\u0438\u043c\u0435\u0440"},
	{"xn--6dbbec0c", "xn--6dbbec0c", "\u05d3\u05d5\u05d2\u05de\u05d4"},
	{"xn--mgbh0fb", "xn--mgbh0fb", "\u0645\u062b\u0627\u0644"},
	{"xn--11b2ezc", "xn--11b2ezc", "\u0915\u094d\u0937"},
	{"xn--lckc", "xn--lckc", "\u30ab\u30ac"},
	{"xn--wgv71a119e", "xn--wgv71a119e", "\u65e5\u672c\u8a9e"},
	{"xn--3e0b707e", "xn--3e0b707e", "\ud55c\uad6d"},
	{"XN--HJ8CUC", "xn--hj8cuc", "\U00010428\U0001044f"},
	// What is joined when it is folded, and what is taken apart.
	{"bu\u0308cher", "xn--bcher-kva", "b\u00fccher"},
	{"\u304b\u306a\u30ab\u3099", "xn--u8j2c1j", "\u304b\u306a\u30ac"},
	{"a\u0308\u0323", "xn--4ca46i", "\u00e4\u0323"},
	{"a\u0323\u0308", "xn--4ca46i", "\u00e4\u0323"},
	{"\u0958", "xn--11b2f", "\u0915\u093c"},
	{"k\u0301", "xn--k-xbb", "k\u0301"},
	{"\u1112\u1161\u11ab\uad6d", "xn--3e0b707e", "\ud55c\uad6d"},
	// What is folded to ASCII, and to the ACE sign.
	{"\u212a", "k", "k"},
	{"\uff41-1", "a-1", "a-1"},
	{"\uff21\uff0d\uff11", "a-1", "a-1"},
	{"\uff58\uff4e\uff0d\uff0d\uff14\uff43\uff41", "xn--4ca", "\u00e4"},
	{"\uff38N-\uff0d4ca", "xn--4ca", "\u00e4"},
	{"\u212b", "xn--5ca", "\u00e5"},
	{"\uff21\u030a", "xn--5ca", "\u00e5"},
	// What needs something, and has it.
	{"l\u00b7l", "xn--ll-0ea", "l\u00b7l"},
	{"L\u00b7L", "xn--ll-0ea", "l\u00b7l"},
	{"\u0915\u094d\u200d\u0937", "xn--11b2ezcw70k", "\u0915\u094d\u200d\u0937"},
	{"\u0628\u200c\u0628", "xn--ngba799q", "\u0628\u200c\u0628"},
	{"\u0375\u03b1", "xn--wva4j", "\u0375\u03b1"},
	{"\u05d0\u05f3", "xn--4db4e", "\u05d0\u05f3"},
	{"\u30a2\u30fb\u30a4", "xn--ccke4x", "\u30a2\u30fb\u30a4"},
	{"\u0627\u0661", "xn--mgb0j", "\u0627\u0661"},
	{"\u06f1\u06f2", "xn--embc", "\u06f1\u06f2"},
	// Dashes that are the third and the fourth character, but not byte; and one dash alone there.
	{"\u00e4b--c", "xn--b--c-koa", "\u00e4b--c"},
	{"\u00e4-b-c", "xn---b-c-koa", "\u00e4-b-c"},
	{"a\u00e4-b", "xn--a-b-qla", "a\u00e4-b"},
}

// wrongWide are labels that have one error, or two, and the one that Wide tells. They are folded already, and not all ASCII.
func wrongWide() map[string]api.Errno {
	farther, farthest := a(far-2), a(2*far)+deseret
	return map[string]api.Errno{
		// Bytes that are no characters.
		"\xff": api.ErrUtf, "\u00e4\x80": api.ErrUtf, "\u00e4\xc3": api.ErrUtf, "\xc1\xa1": api.ErrUtf, "\xed\xa0\x80": api.ErrUtf, "\xf4\x90\x80\x80": api.ErrUtf,
		"-\xff": api.ErrUtf, "\u0301\xff": api.ErrUtf, "\u00e4_\xff": api.ErrUtf, "\u05d0a\xff": api.ErrUtf, "\xff" + farthest: api.ErrUtf, "\u00e4\xff" + a(60): api.ErrUtf, "a\u0308\xff": api.ErrUtf,
		// A dash where none may be.
		"\u00e4-": api.ErrDash, "-\u00e4": api.ErrDash, "ab--\u00e4": api.ErrDash, "\u00e4--b": api.ErrDash, "xn--\u00e4": api.ErrDash, "-\u00e4-": api.ErrDash,
		"\u0301-": api.ErrDash, "\u0301--b": api.ErrDash, "\u00e4_-": api.ErrDash, "-\u05d0a": api.ErrDash, "\u05d0a-": api.ErrDash, "-" + farthest: api.ErrDash, "-\u00e4" + a(60): api.ErrDash,
		// A Mark first, of any script.
		"\u0301a": api.ErrMark, "\u0301": api.ErrMark, "\u05b0a": api.ErrMark, "\u05b0": api.ErrMark, "\u064ba": api.ErrMark, "\u093c": api.ErrMark, "\u094d\u0915": api.ErrMark, "\u3099\u30ab": api.ErrMark,
		"\u0301_": api.ErrMark, "\u0301\u00b7": api.ErrMark, "\u0301\u05d0": api.ErrMark, "\u0301" + farthest: api.ErrMark, "\u0301" + a(60): api.ErrMark,
		// Characters that may not stand there, or that are in no table.
		"\u00e4_": api.ErrChar, "\u00e4 ": api.ErrChar, "\u00e4.": api.ErrChar, "\u00e4\x00": api.ErrChar, "\u00d7": api.ErrChar, "\u0378": api.ErrChar, "\u3002a": api.ErrChar, "\u0080": api.ErrChar, "\U0010ffff": api.ErrChar,
		"\u00b2\u00e4": api.ErrChar, "a\u00b3": api.ErrChar, "\ufb01": api.ErrChar, "\u00a0": api.ErrChar,
		// Characters that miss what they need.
		"a\u00b7": api.ErrChar, "a\u00b7l": api.ErrChar, "l\u00b7": api.ErrChar, "\u200d\u00e4": api.ErrChar, "\u00e4\u200d": api.ErrChar, "a\u200cb": api.ErrChar, "\u0628\u200c": api.ErrChar, "\u0915\u200d\u0937": api.ErrChar,
		"\u03b1\u0375": api.ErrChar, "a\u05f3": api.ErrChar, "\u05f4": api.ErrChar, "\u30fb": api.ErrChar, "a\u30fbb": api.ErrChar, "\u06f1\u0661": api.ErrChar, "\u0627\u0661\u06f1": api.ErrChar,
		"\u05d0a_": api.ErrChar, "\u05d0a\u00b7": api.ErrChar, "_" + farthest: api.ErrChar, "\u00b7" + farthest: api.ErrChar, "\u00e4_" + a(60): api.ErrChar,
		// Directions that may not stand together.
		"\u05d0a": api.ErrBidi, "a\u05d0": api.ErrBidi, "1\u05d0": api.ErrBidi, "\u0661": api.ErrBidi, "a\u0627": api.ErrBidi, "\u0627\u06611": api.ErrBidi, "a\u0661": api.ErrBidi,
		"\u05d0" + farthest: api.ErrBidi, "\u05d0" + a(60): api.ErrBidi,
		// Numbers beyond the limit of Punycode, and too many bytes.
		farthest: api.ErrPuny, deseret + a(far): api.ErrPuny, "\u00e4" + farthest: api.ErrPuny,
		farther + deseret: api.ErrLong, "a" + farther + deseret: api.ErrLong, "\u00e4" + long: api.ErrLong, strings.Repeat("\u00e4", 60): api.ErrLong, strings.Repeat("\u4e2d", 99): api.ErrLong,
	}
}

// wantForms holds both forms of s, and its kind, against what they must be.
func wantForms(t *testing.T, u ucd.Table, s, ascii, wide string, e api.Errno, kind int) {
	t.Helper()
	if got, err := ToASCII(u, s); got != ascii || err != e {
		t.Errorf("ToASCII of %+.99q: got %+q, %d, want %+q, %d", s, got, err, ascii, e)
	}
	if got, err := ToUnicode(u, s); got != wide || err != e {
		t.Errorf("ToUnicode of %+.99q: got %+q, %d, want %+q, %d", s, got, err, wide, e)
	}
	if got := Kind(u, s); got != kind {
		t.Errorf("Kind of %+.99q: got %d, want %d", s, got, kind)
	}
}

// wantBad holds that s has no forms.
func wantBad(t *testing.T, u ucd.Table, s string, e api.Errno) {
	t.Helper()
	wantForms(t, u, s, "", "", e, api.LabelBad)
}

// coded tells what a label is by the ACE sign, right or not.
func coded(t *testing.T, s string) string {
	t.Helper()
	code, is := puny.Encode([]rune(s))
	if !is {
		t.Fatalf("%+q is not encoded", s)
	}
	return "xn--" + code
}

// P8.1: each category, the dash, what is alike, what is not made again, and numbers that are no characters.
func TestChar(t *testing.T) {
	u := ucd.New()
	for _, r := range []rune{
		'-', 'a', 'z', '0', '9', 0xdf, 0xe4, 0xff, 0x3b1, 0x430, 0x1ea5, 0x10428, // small ones
		0x5d0, 0x627, 0x915, 0x1100, 0x3042, 0x30ab, 0x30ac, 0x4e00, 0x9fff, 0xac00, 0xd7a3, // letters that are neither
		0x301, 0x323, 0x5b0, 0x64b, 0x93c, 0x94d, 0x3099, // marks
		0x660, 0x669, 0x6f0, 0x6f9, // digits, though they need something
	} {
		if !Char(u, r) {
			t.Errorf("Char of %x: got false", r)
		}
	}
	for _, r := range []rune{
		'A', 'Z', 0xc0, 0xc4, 0x391, 0x410, 0x1ea4, 0x212a, 0x212b, 0x10400, // great ones
		0xff0d, 0xff10, 0xff21, 0xff41, 0xff5a, 0xfb01, 0xfb02, 0xb2, 0xb3, 0xa0, // what is but alike
		0x958,                                      // what is not made again
		0xb7, 0x375, 0x5f3, 0x200c, 0x200d, 0x30fb, // what needs something
		'.', '_', ' ', '/', '@', '[', '`', '{', 0, 0x7f, 0x2c, 0x2e, 0x80, 0xd7, 0xf7, 0x3002, 0x2010, 0x2d + 0x100,
		0x305, 0x378, 0x5eb, 0x3097, 0xa000, 0xd7a4, 0xe000, 0x10450, 0x10ffff, // in no table
		math.MinInt32, math.MinInt32 + 'a', -0x61, -0x2d, -1, 0xd800, 0xdfff, 0x110000, 0x110061, 0x1000000 + '-', math.MaxInt32,
	} {
		if Char(u, r) {
			t.Errorf("Char of %x: got true", r)
		}
	}
}

// P8.1: all numbers from below the first character to behind the last one.
func TestCharOfAll(t *testing.T) {
	s := newSlow()
	for r := rune(-0x1000); r < 0x111000; r++ {
		if got := Char(s.u, r); got != s.char(r) {
			t.Errorf("Char of %x: got %v", r, got)
		}
	}
}

// P8.2: right ones, each error alone, and each ahead of those behind it.
func TestPlain(t *testing.T) {
	for s, want := range map[string]api.Errno{
		"a": api.OK, "Z": api.OK, "0": api.OK, "A-b": api.OK, "a--b": api.OK, "abc--d": api.OK, "abc---d": api.OK, "ab-c": api.OK, "abc-d": api.OK, "xn-a": api.OK,
		long: api.OK, strings.ToUpper(long): api.OK, "a-" + a(61): api.OK,
		"":       api.ErrEmpty,
		a(64):    api.ErrLong,
		a(65):    api.ErrLong,
		a(10000): api.ErrLong,
		"a_b":    api.ErrChar, "a b": api.ErrChar, ".": api.ErrChar, "a.b": api.ErrChar, "\x00": api.ErrChar, "\u00e4": api.ErrChar, "\xff": api.ErrChar, "\xe1": api.ErrChar, "\uff41": api.ErrChar, "\u212a": api.ErrChar, a(62) + "_": api.ErrChar,
		"-": api.ErrDash, "--": api.ErrDash, "---": api.ErrDash, "----": api.ErrDash, "-a": api.ErrDash, "-a-": api.ErrDash, "ab--": api.ErrDash, "ab--c": api.ErrDash, "ab---c": api.ErrDash, "a---c": api.ErrDash, "xn--": api.ErrDash, "xn--a": api.ErrDash, "XN--4ca": api.ErrDash, "-" + a(62): api.ErrDash, a(62) + "-": api.ErrDash,
		// Two errors.
		a(63) + "_": api.ErrLong, "-" + a(63): api.ErrLong, a(63) + "-": api.ErrLong, "ab--" + a(60): api.ErrLong, strings.Repeat("\u00e4", 32): api.ErrLong, strings.Repeat("-", 64): api.ErrLong,
		"-_": api.ErrChar, "_-": api.ErrChar, "ab--_": api.ErrChar, "-\xff": api.ErrChar, strings.Repeat("\u00e4", 31) + "-": api.ErrChar,
	} {
		if got := Plain(s); got != want {
			t.Errorf("Plain of %+q: got %d, want %d", s, got, want)
		}
	}
}

// P8.2: every byte at each place, and all short strings of what bad dashes are made of.
func TestPlainOfAll(t *testing.T) {
	check := func(s string) {
		if got, want := Plain(s), slowPlain(s); got != want {
			t.Errorf("Plain of %+q: got %d, want %d", s, got, want)
		}
	}
	for b := range 256 {
		c := string([]byte{byte(b)})
		for n := range 67 {
			check(a(n) + c)
			check(c + a(n))
		}
		check("a" + c + "b-c")
	}
	rows.Texts([]string{"-", "a", "_"}, 7, check)
}

// P8.3: what is right.
func TestWideRight(t *testing.T) {
	u := ucd.New()
	for _, c := range right {
		want := api.OK
		if utf.Eight(c.wide) < 0 {
			want = api.ErrForm
		}
		if got := Wide(u, c.wide); got != want {
			t.Errorf("Wide of %+q: got %d, want %d", c.wide, got, want)
		}
	}
}

// P8.3: each error alone, and each ahead of those behind it.
func TestWideWrong(t *testing.T) {
	u := ucd.New()
	for s, want := range wrongWide() {
		if got := Wide(u, s); got != want {
			t.Errorf("Wide of %+.99q: got %d, want %d", s, got, want)
		}
	}
	for _, s := range []string{
		// All ASCII, right or not, and with every error that may stand behind.
		"", "a", "abc", "-", "-a", "a_b", "xn--4ca", a(60), a(64),
		// Not joined, not apart, not in order.
		"a\u0308", "a\u0308\u00e4", "\u0958", "\u212a", "\u212b", "\u30ab\u3099", "\u1100\u1161", "\u00e4\u0308\u0323", "a\u0301\u0323",
		// These have one more error each.
		"-a\u0308", "a\u0308-", "\u0301\u0323", "A\u0308", "a\u0308_", "a\u0308\u00b7", "\u05d0a\u0308", "a\u0308" + a(2*far) + deseret, "a\u0308" + a(60),
	} {
		if got := Wide(u, s); got != api.ErrForm {
			t.Errorf("Wide of %+.99q: got %d, want %d", s, got, api.ErrForm)
		}
	}
	// Great letters and wide ones, which would be folded, may not stand there.
	for _, s := range []string{"A\u00e4", "\u00c4", "\uff41", "\uff11\u00e4", "\u0391", "\U00010400", "\uff0da", "\u00e4\uff0d"} {
		if got := Wide(u, s); got != api.ErrChar {
			t.Errorf("Wide of %+q: got %d, want %d", s, got, api.ErrChar)
		}
	}
}

// P8.4, P8.5: both forms of what is right.
func TestFormsOfRight(t *testing.T) {
	u := ucd.New()
	for _, c := range right {
		kind := api.LabelPlain
		switch {
		case utf.Eight(c.s) >= 0:
			kind = api.LabelWide
		case strings.EqualFold(c.s[:min(len(c.s), 4)], "xn--"):
			kind = api.LabelAce
		}
		wantForms(t, u, c.s, c.ascii, c.wide, api.OK, kind)
	}
}

// P8.4, P8.5: what has no forms.
func TestFormsOfWrong(t *testing.T) {
	u := ucd.New()
	for s, want := range wrongWide() {
		wantBad(t, u, s, want)
	}
	for s, want := range map[string]api.Errno{
		// Of ASCII, or folded to it.
		"": api.ErrEmpty, a(64): api.ErrLong, strings.Repeat("\uff21", 64): api.ErrLong, strings.Repeat("\u212a", 64): api.ErrLong,
		"a_b": api.ErrChar, "a b": api.ErrChar, "A.B": api.ErrChar, "\uff0ea": api.ErrChar, "\uff3f": api.ErrChar,
		"-a": api.ErrDash, "a-": api.ErrDash, "ab--c": api.ErrDash, "xm--a": api.ErrDash, "yn--4ca": api.ErrDash, "\uff0da": api.ErrDash, "ab-\uff0dc": api.ErrDash, "xn-": api.ErrDash,
		// Beginning with the sign, but not all ASCII.
		"xn--\u00e4": api.ErrDash, "\uff38N--\u00c4": api.ErrDash, "xn--\u0301": api.ErrDash, "xn--4ca\u00e4_": api.ErrDash, "xn--4ca\xff": api.ErrUtf,
		// Alike, great or wide, but folded to nothing that may be.
		"\ufb01": api.ErrChar, "\u00b2\u00e4": api.ErrChar, "\u00a0": api.ErrChar, "\uff21\u05d0": api.ErrBidi, "\u0301A": api.ErrMark, "A\u0308-": api.ErrDash, "\u212b" + a(64): api.ErrLong,
	} {
		wantBad(t, u, s, want)
	}
}

// P8.4, P8.5: what stands behind the sign is nothing that may be.
func TestFormsOfWrongAce(t *testing.T) {
	u := ucd.New()
	for s, want := range map[string]api.Errno{
		// Nothing, and all ASCII.
		"xn--": api.ErrForm, "XN--": api.ErrForm, "Xn--": api.ErrForm, "\uff58n-\uff0d": api.ErrForm, "xn--abc-": api.ErrForm, "XN--ABC-": api.ErrForm, "xn----": api.ErrForm, "xn---a-": api.ErrForm,
		// No digits, cut short, or beyond what characters there are.
		"xn--!": api.ErrPuny, "xn--bcher-kv": api.ErrPuny, "xn--bcher-k": api.ErrPuny, "xn--4c": api.ErrPuny, "xn--4": api.ErrPuny, "xn--a_b": api.ErrPuny, "xn--99999999": api.ErrPuny, "xn--4ca!": api.ErrPuny, "xn--bcher-kva ": api.ErrPuny,
		// Written otherwise than it would be: with a dash behind nothing, or of characters that are joined, apart, in order, small or narrow in a label.
		"xn---": api.ErrPuny, "xn---4ca": api.ErrPuny, "xn---tda": api.ErrPuny,
		coded(t, "a\u0308"): api.ErrForm, coded(t, "\u0958"): api.ErrForm, coded(t, "\u1100\u1161"): api.ErrForm, coded(t, "\u212b"): api.ErrForm, coded(t, "\u0301\u0323"): api.ErrForm,
		coded(t, "\u00c4"): api.ErrChar, coded(t, "\uff41"): api.ErrChar, coded(t, "\u0391"): api.ErrChar, coded(t, "\ufb01"): api.ErrChar,
		// Each other error of a wide label.
		coded(t, "-\u00fc"): api.ErrDash, coded(t, "\u00fc-"): api.ErrDash, coded(t, "\u00fc--b"): api.ErrDash, coded(t, "xn--\u00fc"): api.ErrDash,
		coded(t, "\u0301a"): api.ErrMark, coded(t, "\u0301_"): api.ErrMark, coded(t, "a_\u00fc"): api.ErrChar, coded(t, "a\u00b7"): api.ErrChar, coded(t, "\u00fc\u200d"): api.ErrChar, coded(t, "\u0378"): api.ErrChar, coded(t, "\u05d0a"): api.ErrBidi,
		// Too long, which is told ahead of all but what can't be read.
		"xn--" + a(60): api.ErrLong, "xn--" + long: api.ErrLong, "xn--" + a(60) + "-": api.ErrLong, "xn--" + a(59) + "-": api.ErrLong,
		coded(t, "-\u00fc"+a(60)): api.ErrLong, coded(t, "\u0301"+a(60)): api.ErrLong, coded(t, "_\u00fc"+a(60)): api.ErrLong, coded(t, "\u05d0"+a(60)): api.ErrLong, coded(t, "a\u0308"+a(60)): api.ErrLong, coded(t, "\u00fc"+a(60)): api.ErrLong,
		"xn--" + a(60) + "!": api.ErrPuny, "xn--" + a(60) + "-!": api.ErrPuny, "xn--" + a(60) + "4": api.ErrPuny, "xn--" + a(60) + "-4c": api.ErrPuny,
	} {
		wantBad(t, u, s, want)
	}
	// The digits alone would be right.
	for _, s := range []string{"xn-4ca", "xn4ca", "4ca", "n--4ca"} {
		if got, _ := ToUnicode(u, s); strings.Contains(got, "\u00e4") {
			t.Errorf("ToUnicode of %q: got %+q", s, got)
		}
	}
}

// P8.3, P8.4: 59 bytes behind the sign, and 60, of the same kind of label.
func TestRoom(t *testing.T) {
	u := ucd.New()
	for _, last := range []string{"\u00fc", "\u3042", "\u4e2d"} {
		var lengths []int
		for n := range 70 {
			s := a(n) + last
			ace := coded(t, s)
			lengths = append(lengths, len(ace)-4)
			if len(ace) > 63 {
				if got := Wide(u, s); got != api.ErrLong {
					t.Errorf("Wide of %+q: got %d", s, got)
				}
				wantBad(t, u, s, api.ErrLong)
				wantBad(t, u, ace, api.ErrLong)
				continue
			}
			if got := Wide(u, s); got != api.OK {
				t.Errorf("Wide of %+q: got %d", s, got)
			}
			wantForms(t, u, s, ace, s, api.OK, api.LabelWide)
			wantForms(t, u, ace, ace, s, api.OK, api.LabelAce)
		}
		if !slices.Contains(lengths, 59) || !slices.Contains(lengths, 60) {
			t.Errorf("%+q: 59 and 60 bytes are not both among %v", last, lengths)
		}
	}
}

// P8.3: the greatest number of letters that Punycode takes ahead of deseret is too long only; the labels above that have this error and another one do have it.
func TestFar(t *testing.T) {
	u := ucd.New()
	for n, want := range map[int]api.Errno{far - 1: api.ErrLong, far: api.ErrPuny} {
		if got := Wide(u, a(n)+deseret); got != want {
			t.Errorf("Wide of %d letters: got %d, want %d", n, got, want)
		}
	}
	for _, ahead := range []string{"-", "_", "\u00b7", "\u0301", "\u05d0", "a\u0308"} {
		if _, is := puny.Encode([]rune(ahead + a(2*far) + deseret)); is {
			t.Errorf("%+q ahead of many letters is encoded", ahead)
		}
	}
}

// P8.4: the last of its errors can be told of nothing short: what is decoded is encoded as it was.
func TestWrittenOneWay(t *testing.T) {
	rows.Texts(strings.Split("abcdefghijklmnopqrstuvwxyz0123456789-_", ""), 3, func(s string) {
		l, is := puny.Decode(s)
		if !is {
			return
		}
		if code, _ := puny.Encode(l); code != s {
			t.Errorf("%q is written %q", s, code)
		}
	})
}

// P8.5: the kind is that of s, not of what it is folded to.
func TestKind(t *testing.T) {
	u := ucd.New()
	for s, want := range map[string]int{
		"a": api.LabelPlain, "A-B": api.LabelPlain, "xn-a": api.LabelPlain, "1": api.LabelPlain,
		"xn--4ca": api.LabelAce, "XN--4CA": api.LabelAce, "xN--4ca": api.LabelAce, "Xn--bcher-KVA": api.LabelAce,
		"\u00e4": api.LabelWide, "\u00c4": api.LabelWide, "a\u0308": api.LabelWide, "\u4e2d": api.LabelWide,
		"\u212a": api.LabelWide, "\uff41": api.LabelWide, "\uff58n--4ca": api.LabelWide, "xn\uff0d-4ca": api.LabelWide, "xn--4c\uff41": api.LabelWide,
		"": api.LabelBad, "-a": api.LabelBad, "xn--": api.LabelBad, "XN--!": api.LabelBad, "xn--\u00e4": api.LabelBad, "\u0301": api.LabelBad, "\xff": api.LabelBad, a(64): api.LabelBad,
	} {
		if got := Kind(u, s); got != want {
			t.Errorf("Kind of %+q: got %d, want %d", s, got, want)
		}
	}
}

// checkAll holds every call on s against the slow reading, and what follows of them.
func checkAll(t *testing.T, s slow, text string) {
	t.Helper()
	ascii, wide, e := s.forms(text)
	wantForms(t, s.u, text, ascii, wide, e, s.kind(text))
	if got, want := Wide(s.u, text), s.wide(text); got != want {
		t.Errorf("Wide of %+q: got %d, want %d", text, got, want)
	}
	if got, want := Plain(text), slowPlain(text); got != want {
		t.Errorf("Plain of %+q: got %d, want %d", text, got, want)
	}
	if e == api.OK {
		checkFollows(t, s.u, text)
	}
}

// checkFollows is P8.6 of a label that is right.
func checkFollows(t *testing.T, u ucd.Table, s string) {
	t.Helper()
	ascii, _ := ToASCII(u, s)
	wide, _ := ToUnicode(u, s)
	if utf.Eight(ascii) >= 0 || len(ascii) > api.MaxLabel {
		t.Errorf("ToASCII of %+q: got %+q", s, ascii)
	}
	if (utf.Eight(wide) < 0) != (ascii == wide) || !norm.Is(u, wide) {
		t.Errorf("%+q: ToASCII is %+q, ToUnicode %+q", s, ascii, wide)
	}
	for _, form := range []string{ascii, wide} {
		if got, e := ToASCII(u, form); got != ascii || e != api.OK {
			t.Errorf("ToASCII of %+q, a form of %+q: got %+q, %d, want %+q", form, s, got, e, ascii)
		}
		if got, e := ToUnicode(u, form); got != wide || e != api.OK {
			t.Errorf("ToUnicode of %+q, a form of %+q: got %+q, %d, want %+q", form, s, got, e, wide)
		}
	}
	want := api.LabelPlain
	if ascii != wide {
		want = api.LabelAce
		if got := Kind(u, wide); got != api.LabelWide {
			t.Errorf("Kind of %+q: got %d", wide, got)
		}
	}
	if got := Kind(u, ascii); got != want {
		t.Errorf("Kind of %+q: got %d, want %d", ascii, got, want)
	}
}

// P8.6: the two forms of all that is right tell of each other.
func TestFollows(t *testing.T) {
	u := ucd.New()
	for _, c := range right {
		checkFollows(t, u, c.s)
	}
}

// P8.2 to P8.6: all short texts of what the errors are about.
func TestShortTexts(t *testing.T) {
	s := newSlow()
	mixed := []string{"a", "A", "l", "-", "_", "1", "\xff", "\u00b2", "\u00b7", "\u00c4", "\u00e4", "\u0301", "\u0308", "\u0323", "\u0375", "\u03b1", "\u05d0", "\u05f3", "\u0627", "\u0628", "\u0661", "\u06f1", "\u0915", "\u094d", "\u0958", "\u200c", "\u200d", "\u212a", "\u30fb", "\u30ab", "\u3099", "\u4e00", "\uac00", "\ufb01", "\uff0d", "\uff21", "\U00010400"}
	rows.Texts(mixed, 3, func(text string) { checkAll(t, s, text) })
	rows.Texts([]string{"a", "-", "\u00e4", "\u0301", "\u05d0", "\uff0d"}, 6, func(text string) { checkAll(t, s, text) })
}

// P8.4 to P8.6: all short texts behind the sign.
func TestShortAce(t *testing.T) {
	s := newSlow()
	rows.Texts(strings.Split("abcdkmtvxz0149-_", ""), 4, func(text string) { checkAll(t, s, "xn--"+text) })
	rows.Texts([]string{"x", "X", "n", "-", "\uff4e", "4", "ca", "\u00e4"}, 5, func(text string) { checkAll(t, s, text) })
}

// isDull tells who stands amid many that are all alike.
func isDull(r rune) bool {
	for _, gap := range [][2]rune{{0x1200, 0x1e00}, {0x2200, 0x2f00}, {0x3200, 0x4df0}, {0x4e10, 0x9ff0}, {0xa010, 0xabf0}, {0xac40, 0xd790}, {0xd800, 0xdfff}, {0xe010, 0xfaf0}} {
		if gap[0] <= r && r <= gap[1] {
			return true
		}
	}
	return false
}

// P8.3 to P8.6: every character, alone and among others, as it is and by the sign.
func TestEveryCharacter(t *testing.T) {
	s := newSlow()
	for r := rune(0); r < 0x10460; r++ {
		if isDull(r) {
			continue
		}
		c := string(r)
		for _, text := range []string{c, "a" + c, c + "a", "\u05d0" + c, "\u00e4" + c + "-b"} {
			checkAll(t, s, text)
			checkAll(t, s, coded(t, text))
		}
	}
}

// W1: long texts come to an end, and soon.
func TestLongTexts(t *testing.T) {
	u := ucd.New()
	const many = 1 << 16
	for _, c := range []struct {
		s string
		e api.Errno
	}{
		{a(many), api.ErrLong},
		{"xn--" + a(many), api.ErrLong},
		{"xn--" + a(many) + "-", api.ErrLong},
		{"xn--" + a(many) + "-4c", api.ErrPuny},
		{"xn--" + strings.Repeat("-", many), api.ErrLong},
		{strings.Repeat("-", many), api.ErrLong},
		{strings.Repeat("\u00e4", many), api.ErrLong},
		{strings.Repeat("\u30fb", many), api.ErrChar},
		{strings.Repeat("\u30fb", many) + "\u30ab", api.ErrLong},
		{"\u0627" + strings.Repeat("\u0661", many), api.ErrLong},
		{strings.Repeat("\u0301", many), api.ErrMark},
		{"a" + strings.Repeat("\u0301", many), api.ErrLong},
		{strings.Repeat("\xff", many), api.ErrUtf},
		{strings.Repeat("\u00e4", many) + "-", api.ErrDash},
	} {
		wantBad(t, u, c.s, c.e)
	}
}
