package domain

import (
	"slices"
	"strings"
	"testing"
	"unsafe"

	"pillarbox/api"
	"pillarbox/fold"
	"pillarbox/rows"
	"pillarbox/ucd"
	"pillarbox/utf"
)

// a tells n letters.
func a(n int) string { return strings.Repeat("a", n) }

// row tells n times one label, with a dot between two.
func row(one string, n int) string {
	return strings.Repeat(one+".", n-1) + one
}

// ofBytes tells n bytes of letters and dots, in labels as long as may be.
func ofBytes(n int) string {
	s := ""
	for ; n > 64; n -= 64 {
		s += a(63) + "."
	}
	return s + a(n)
}

// han is a wide label of 9 bytes; hanACE is its form by ASCII, of 14.
const (
	han    = "\u65e5\u672c\u8a9e"
	hanACE = "xn--wgv71a119e"
)

// right are domains that are right, and their forms.
var right = []struct{ s, ascii, wide string }{
	// The chapter's first.
	{"A.b-c", "a.b-c", "a.b-c"},
	// One label, two, and many.
	{"a", "a", "a"},
	{"Example", "example", "example"},
	{"0", "0", "0"},
	{"a.b", "a.b", "a.b"},
	{"Mail.Example.ORG", "mail.example.org", "mail.example.org"},
	{"a.b.c.d.e.f.g.h", "a.b.c.d.e.f.g.h", "a.b.c.d.e.f.g.h"},
	{"1.2.3.4", "1.2.3.4", "1.2.3.4"},
	{"a.a.a", "a.a.a", "a.a.a"},
	// Wide ones.
	{"b\u00fccher", "xn--bcher-kva", "b\u00fccher"},
	{"\u00e4.\u00e4", "xn--4ca.xn--4ca", "\u00e4.\u00e4"},
	{"B\u00dcCHER.\u4e2d\u6587", "xn--bcher-kva.xn--fiq228c", "b\u00fccher.\u4e2d\u6587"},
	{han + ".jp", hanACE + ".jp", han + ".jp"},
	{"www." + han, "www." + hanACE, "www." + han},
	// Behind the sign.
	{"xn--4ca", "xn--4ca", "\u00e4"},
	{"XN--BCHER-KVA.De", "xn--bcher-kva.de", "b\u00fccher.de"},
	{"a.xN--4cA", "a.xn--4ca", "a.\u00e4"},
	// All three side by side, in each order.
	{"a.\u00e4.xn--bcher-kva", "a.xn--4ca.xn--bcher-kva", "a.\u00e4.b\u00fccher"},
	{"a.xn--bcher-kva.\u00e4", "a.xn--bcher-kva.xn--4ca", "a.b\u00fccher.\u00e4"},
	{"\u00e4.a.xn--bcher-kva", "xn--4ca.a.xn--bcher-kva", "\u00e4.a.b\u00fccher"},
	{"\u00e4.xn--bcher-kva.a", "xn--4ca.xn--bcher-kva.a", "\u00e4.b\u00fccher.a"},
	{"xn--bcher-kva.a.\u00e4", "xn--bcher-kva.a.xn--4ca", "b\u00fccher.a.\u00e4"},
	{"xn--bcher-kva.\u00e4.a", "xn--bcher-kva.xn--4ca.a", "b\u00fccher.\u00e4.a"},
	// Other dots.
	{"a\u3002b", "a.b", "a.b"},
	{"a\uff0eb", "a.b", "a.b"},
	{"a.b\u3002c\uff0ed", "a.b.c.d", "a.b.c.d"},
	{"\u00c4\u3002B", "xn--4ca.b", "\u00e4.b"},
	{"\u4e2d\u6587\u3002\u65e5\u672c\u8a9e", "xn--fiq228c." + hanACE, "\u4e2d\u6587." + han},
	{"xn--4ca\u3002XN--4CA", "xn--4ca.xn--4ca", "\u00e4.\u00e4"},
	// What is folded: narrow, small, joined, and to ASCII or to the sign.
	{"\uff21\uff22\uff23.\uff11", "abc.1", "abc.1"},
	{"\uff58\uff4e\uff0d\uff0d\uff14\uff43\uff41\uff0e\uff41", "xn--4ca.a", "\u00e4.a"},
	{"A\u0308.a\u0308.\u00c4.\u00e4", "xn--4ca.xn--4ca.xn--4ca.xn--4ca", "\u00e4.\u00e4.\u00e4.\u00e4"},
	{"\u212a.\u212b", "k.xn--5ca", "k.\u00e5"},
	{"\u1100\u1161.\u1112\u1161\u11ab\uad6d", "xn--o39a.xn--3e0b707e", "\uac00.\ud55c\uad6d"},
	// Directions, and what something needs, are asked label by label.
	{"\u05d0.a", "xn--4db.a", "\u05d0.a"},
	{"1.\u05d0.\u0627", "1.xn--4db.xn--mgb", "1.\u05d0.\u0627"},
	{"\u0627\u0661.\u06f1", "xn--mgb0j.xn--emb", "\u0627\u0661.\u06f1"},
	{"a--b.a", "a--b.a", "a--b.a"},
	{"ab-c.d-e", "ab-c.d-e", "ab-c.d-e"},
}

// wrong are domains that have one error, and that which is told.
var wrong = map[string]api.Errno{
	// Bytes that are no characters.
	"\xff": api.ErrUtf, "a.\xff": api.ErrUtf, "\xff.a": api.ErrUtf, "a\x80.b": api.ErrUtf, "\xe3\x80": api.ErrUtf, "a\xe3\x80.b": api.ErrUtf, "\xc0\xae": api.ErrUtf, "a\xed\xa0\x80": api.ErrUtf, "\u00e4.\xc3": api.ErrUtf, "\xf4\x90\x80\x80": api.ErrUtf,
	// Nothing, and nothing beside a dot.
	"": api.ErrEmpty, ".": api.ErrEmpty, "..": api.ErrEmpty, "...": api.ErrEmpty, "a.": api.ErrEmpty, ".a": api.ErrEmpty, "a..b": api.ErrEmpty, "a.b.": api.ErrEmpty, ".a.b": api.ErrEmpty, "a.b..": api.ErrEmpty,
	"\u3002": api.ErrEmpty, "\uff0e": api.ErrEmpty, "a\u3002": api.ErrEmpty, "\u3002a": api.ErrEmpty, "a.\u3002b": api.ErrEmpty, "a\uff0e\u3002b": api.ErrEmpty, "\u00e4..\u00e4": api.ErrEmpty, "xn--4ca.": api.ErrEmpty,
	// Too many labels.
	row("a", 33): api.ErrFull, row("a", 34): api.ErrFull, row("\u00e4", 33): api.ErrFull, row("xn--4ca", 33): api.ErrFull, strings.Repeat("a\u3002", 32) + "a": api.ErrFull, strings.Repeat("a\uff0e", 32) + "a": api.ErrFull,
	// One label that is too long, by bytes of ASCII; and too many bytes in all.
	a(64): api.ErrLong, "a." + a(64): api.ErrLong, a(64) + ".a": api.ErrLong, "a." + strings.Repeat("\u00e4", 60): api.ErrLong, "xn--" + a(60): api.ErrLong,
	ofBytes(254): api.ErrLong, ofBytes(255): api.ErrLong, ofBytes(300): api.ErrLong, row(hanACE, 17): api.ErrLong, row(han, 17): api.ErrLong,
	// Characters that may not be there.
	"a_b": api.ErrChar, "a.b c": api.ErrChar, "a@b": api.ErrChar, "a,b": api.ErrChar, "a:b": api.ErrChar, "a.\x00": api.ErrChar, "\u00e4_.a": api.ErrChar, "a.\ufb01": api.ErrChar, "\u00b7.a": api.ErrChar, "l\u00b7.l": api.ErrChar, "\u0628\u200c.\u0628": api.ErrChar, "[1.2.3.4]": api.ErrChar, "xn--tda_": api.ErrPuny,
	// What looks like a dot, and is none.
	"a\u2024b": api.ErrChar, "a\u00b7b": api.ErrChar, "a\ufe52b": api.ErrChar, "a\uff61b": api.ErrChar, "a\u3001b": api.ErrChar, "a\u3003b": api.ErrChar, "a\u30fbb": api.ErrChar, "a/b": api.ErrChar, "a\uff0fb": api.ErrChar,
	// Directions, marks, dashes, Punycode, and its form.
	"\u05d0a": api.ErrBidi, "a.\u05d0a.b": api.ErrBidi, "b.a\u0661": api.ErrBidi,
	"\u0301": api.ErrMark, "a.\u0301": api.ErrMark, "a.\u0308b": api.ErrMark, "a.\u3099": api.ErrMark, "a\u3002\u0323b": api.ErrMark,
	"-a": api.ErrDash, "a-.b": api.ErrDash, "a.-b": api.ErrDash, "a.ab--c": api.ErrDash, "-.a": api.ErrDash, "a.\u00e4-": api.ErrDash, "\u00e4.-\u00e4": api.ErrDash,
	"xn--!": api.ErrPuny, "a.xn--4c": api.ErrPuny, "xn--99999999.a": api.ErrPuny,
	"xn--": api.ErrForm, "a.xn--": api.ErrForm, "xn--abc-.a": api.ErrForm,
}

// wrongTwice are domains that have two errors or more, and the one that is told.
var wrongTwice = map[string]api.Errno{
	// Bytes that are no characters are told ahead of all.
	"-a.\xff": api.ErrUtf, "..\xff": api.ErrUtf, "\xff..": api.ErrUtf, row("a", 33) + "\xff": api.ErrUtf, "\xff" + row("a", 33): api.ErrUtf, ofBytes(254) + "\xff": api.ErrUtf, "a_." + a(64) + "\xff": api.ErrUtf,
	// So many labels ahead of what is wrong with one of them.
	"-a." + row("a", 32): api.ErrFull, row("a", 32) + ".-a": api.ErrFull, row("a", 32) + ".": api.ErrFull, "." + row("a", 32): api.ErrFull, strings.Repeat(".", 32): api.ErrFull, strings.Repeat(".", 33): api.ErrFull, strings.Repeat("\u3002", 32): api.ErrFull,
	row("\u0301", 33): api.ErrFull, row("a_", 33): api.ErrFull, row("\u05d0a", 33): api.ErrFull, row("xn--", 33): api.ErrFull, row(a(64), 33): api.ErrFull, row(a(8), 33): api.ErrFull, row("xn--!", 33): api.ErrFull,
	// Of two labels that are wrong, the first one's.
	"-a.b_": api.ErrDash, "b_.-a": api.ErrChar, "a.-a.b_": api.ErrDash, "a.b_.-a": api.ErrChar,
	".-a": api.ErrEmpty, "-a.": api.ErrDash, "b_..": api.ErrChar, "..b_": api.ErrEmpty, "\u0301..": api.ErrMark, ".\u0301": api.ErrEmpty,
	a(64) + ".-a": api.ErrLong, "-a." + a(64): api.ErrDash, a(64) + "..": api.ErrLong, ".." + a(64): api.ErrEmpty,
	"\u05d0a.\u0301": api.ErrBidi, "\u0301.\u05d0a": api.ErrMark, "xn--!.\u05d0a": api.ErrPuny, "\u05d0a.xn--!": api.ErrBidi, "xn--.xn--!": api.ErrForm, "xn--!.xn--": api.ErrPuny, "\u0301.b_": api.ErrMark, "b_.\u0301": api.ErrChar, "xn--.-a": api.ErrForm, "-a.xn--": api.ErrDash,
	// What is wrong with a label ahead of too many bytes.
	ofBytes(254) + ".": api.ErrEmpty, "." + ofBytes(254): api.ErrEmpty, ofBytes(254) + "-": api.ErrDash, "-" + ofBytes(250): api.ErrLong, ofBytes(300) + ".b_": api.ErrChar, "b_." + ofBytes(300): api.ErrChar, row(han, 17) + ".\u0301": api.ErrMark, row(han, 17) + ".\u05d0a": api.ErrBidi, "xn--." + ofBytes(254): api.ErrForm, row(hanACE, 17) + ".xn--!": api.ErrPuny,
	// So many bytes that there would be too many labels too.
	row(a(63), 33): api.ErrFull, row(han, 33): api.ErrFull,
}

// wantForms holds both forms of s against what they must be.
func wantForms(t *testing.T, u ucd.Table, s, ascii, wide string, e api.Errno) {
	t.Helper()
	if got, err := ToASCII(u, s); got != ascii || err != e {
		t.Errorf("ToASCII of %+.99q: got %+q, %d, want %+q, %d", s, got, err, ascii, e)
	}
	if got, err := ToUnicode(u, s); got != wide || err != e {
		t.Errorf("ToUnicode of %+.99q: got %+q, %d, want %+q, %d", s, got, err, wide, e)
	}
}

// wantBad holds that s is no domain.
func wantBad(t *testing.T, u ucd.Table, s string, e api.Errno) {
	t.Helper()
	wantForms(t, u, s, "", "", e)
	if got, err := Down(u, s); got != "" || err != e {
		t.Errorf("Down of %+.99q: got %+q, %d, want %d", s, got, err, e)
	}
	if Same(u, s, s) || Same(u, s, "a") || Same(u, "a", s) {
		t.Errorf("%+.99q is the Same", s)
	}
}

// wantLabels holds what stands between the dots of s against what it must be.
func wantLabels(t *testing.T, u ucd.Table, s string, want []string, e api.Errno) {
	t.Helper()
	if got, err := Labels(u, s); !slices.Equal(got, want) || err != e {
		t.Errorf("Labels of %+.99q: got %+q, %d, want %+q, %d", s, got, err, want, e)
	}
}

// P9.1: what stands between dots of each kind, right or not, and is folded.
func TestLabels(t *testing.T) {
	u := ucd.New()
	for s, want := range map[string][]string{
		"a": {"a"}, "A.b-c": {"a", "b-c"}, "a.b.c": {"a", "b", "c"}, "c.b.a": {"c", "b", "a"}, "a.a": {"a", "a"},
		"a\u3002b": {"a", "b"}, "a\uff0eb": {"a", "b"}, "a.b\u3002c\uff0ed.e": {"a", "b", "c", "d", "e"}, "\u00e4\u3002\u00e4": {"\u00e4", "\u00e4"}, "\u3002\u4e00": {"", "\u4e00"},
		// An empty one is told, too.
		".": {"", ""}, "..": {"", "", ""}, "a.": {"a", ""}, ".a": {"", "a"}, "a..b": {"a", "", "b"}, "\u3002": {"", ""}, "\uff0e.\u3002": {"", "", "", ""},
		// Neither are they brought into another form than the folded one, nor asked for errors.
		"\u00c4.XN--4CA": {"\u00e4", "xn--4ca"}, "A\u0308.\uff21": {"\u00e4", "a"}, "\u212a\u3002\u212b": {"k", "\u00e5"}, "\u0958": {"\u0915\u093c"},
		"-a.b_": {"-a", "b_"}, " . ": {" ", " "}, "xn--.xn--!": {"xn--", "xn--!"}, "\u0301.\u05d0a": {"\u0301", "\u05d0a"}, "a.\u0308": {"a", "\u0308"}, a(64) + "." + a(300): {a(64), a(300)}, "\x00.\x7f": {"\x00", "\x7f"}, "a\n.b": {"a\n", "b"},
		// What is no dot.
		"a,b": {"a,b"}, "a\u2024b": {"a\u2024b"}, "a\ufe52b": {"a\ufe52b"}, "a\uff61b": {"a\uff61b"}, "a\u3001b\u3003c": {"a\u3001b\u3003c"}, "a\u00b7b": {"a\u00b7b"}, "\u2e2e.\u3030": {"\u2e2e", "\u3030"}, "\U0001002e\U00013002": {"\U0001002e\U00013002"}, "\ufffd.\ufffd": {"\ufffd", "\ufffd"},
	} {
		wantLabels(t, u, s, want, api.OK)
	}
}

// P9.1: its errors, in their order.
func TestLabelsWrong(t *testing.T) {
	u := ucd.New()
	wantLabels(t, u, "", nil, api.ErrEmpty)
	for _, s := range []string{"\xff", "a.\xff", "\xff.a", ".\x80", "\xc0\xae", "a\xe3\x80.b", "\xed\xa0\x80", "\xf4\x90\x80\x80", row("a", 33) + ".\xff", "\xff" + row("a", 33), strings.Repeat(".", 99) + "\xe3\x80"} {
		wantLabels(t, u, s, nil, api.ErrUtf)
	}
	for _, one := range []string{"a", "\u00e4", "", "-", "xn--4ca", a(99)} {
		for _, dot := range []string{".", "\u3002", "\uff0e"} {
			for n := 1; n < 70; n++ {
				s := strings.Repeat(one+dot, n) + one
				if n+1 <= 32 {
					wantLabels(t, u, s, slices.Repeat([]string{one}, n+1), api.OK)
				} else {
					wantLabels(t, u, s, nil, api.ErrFull)
				}
			}
		}
	}
}

// P9.1: every character stands in a label or is a dot.
func TestLabelsOfEvery(t *testing.T) {
	u := ucd.New()
	for r := rune(0); r <= 0x10ffff; r++ {
		if !utf.Right(r) {
			continue
		}
		s := "a" + string(r) + "b"
		f, _ := fold.Fold(u, s)
		want := []string{f}
		if r == 0x2e || r == 0x3002 || r == 0xff0e {
			want = []string{"a", "b"}
		}
		if got, e := Labels(u, s); !slices.Equal(got, want) || e != api.OK {
			t.Errorf("Labels of %+q: got %+q, %d", s, got, e)
		}
	}
}

// W6: what Labels tells is new memory, spare room too.
func TestLabelsNew(t *testing.T) {
	u := ucd.New()
	for n := 1; n <= 32; n++ {
		s := row("b", n)
		first, _ := Labels(u, s)
		second, _ := Labels(u, s)
		for at := range first[:cap(first)] {
			first[:cap(first)][at] = "c"
		}
		if want := slices.Repeat([]string{"b"}, n); !slices.Equal(second, want) {
			t.Errorf("%d labels: got %q behind a change of other ones", n, second)
		}
		wantLabels(t, u, s, slices.Repeat([]string{"b"}, n), api.OK)
	}
}

// W6: no text that is told shares memory with the domain.
func TestTextsNew(t *testing.T) {
	u := ucd.New()
	for _, c := range right {
		bytes := []byte(c.s)
		// A string that is made of the bytes themselves, so that it shows when they change.
		s := unsafe.String(unsafe.SliceData(bytes), len(bytes))
		ascii, _ := ToASCII(u, s)
		wide, _ := ToUnicode(u, s)
		down, _ := Down(u, s)
		for at := range bytes {
			bytes[at] = 'X'
		}
		want, _ := Down(u, c.s)
		if ascii != c.ascii || wide != c.wide || down != want {
			t.Errorf("%+q: got %q, %+q, %q behind a change of it", c.s, ascii, wide, down)
		}
	}
}

// P9.2: both forms of what is right.
func TestFormsOfRight(t *testing.T) {
	u := ucd.New()
	for _, c := range right {
		wantForms(t, u, c.s, c.ascii, c.wide, api.OK)
	}
}

// P9.2, P9.3, W3: each error alone, and of two the one that is told.
func TestFormsOfWrong(t *testing.T) {
	u := ucd.New()
	for s, e := range wrong {
		wantBad(t, u, s, e)
	}
	for s, e := range wrongTwice {
		wantBad(t, u, s, e)
	}
}

// P9.2: each two of the wrong labels, in both orders.
func TestFirstOfTwo(t *testing.T) {
	u := ucd.New()
	labels := map[string]api.Errno{"": api.ErrEmpty, a(64): api.ErrLong, "b_": api.ErrChar, "-a": api.ErrDash, "\u0301": api.ErrMark, "\u05d0a": api.ErrBidi, "xn--!": api.ErrPuny, "xn--": api.ErrForm, "\u00e4" + a(64): api.ErrLong, "\u00e4-": api.ErrDash}
	for one, e := range labels {
		for other, f := range labels {
			for _, between := range []string{".", ".a.", "\u3002", ".\u00e4\uff0exn--4ca."} {
				wantBad(t, u, one+between+other, e)
				wantBad(t, u, "a."+other+between+one+".a", f)
			}
		}
	}
}

// P9.2: up to 32 labels, and no more.
func TestManyLabels(t *testing.T) {
	u := ucd.New()
	for n := 1; n <= 32; n++ {
		wantForms(t, u, row("A", n), row("a", n), row("a", n), api.OK)
	}
	// So many wide labels have too many bytes, so one is not.
	for n := 1; n < 32; n++ {
		wantForms(t, u, "A."+row("\u4e00", n), "a."+row("xn--4gq", n), "a."+row("\u4e00", n), api.OK)
		wantForms(t, u, row("xn--4gq", n)+".A", row("xn--4gq", n)+".a", row("\u4e00", n)+".a", api.OK)
	}
	for _, n := range []int{33, 34, 64, 65, 100} {
		for _, one := range []string{"A", "\u4e00", "xn--4gq", ""} {
			wantBad(t, u, row(one, n), api.ErrFull)
		}
	}
}

// P9.2: 253 bytes of ASCII, and 254: of letters, of wide labels and of those behind the sign, whatever number of bytes the domain has as it came.
func TestRoom(t *testing.T) {
	u := ucd.New()
	for n := 1; n <= 253; n++ {
		if n%64 != 0 {
			s := ofBytes(n)
			wantForms(t, u, s, s, s, api.OK)
		}
	}
	wide := row(han, 16)
	ace := row(hanACE, 16)
	if len(ace) != 239 {
		t.Fatalf("16 labels have %d bytes", len(ace))
	}
	for n := 1; n < 40; n++ {
		tail := "." + a(n)
		for _, s := range []string{wide + tail, ace + tail, strings.ToUpper(ace + tail), strings.ReplaceAll(wide+tail, ".", "\u3002")} {
			if 239+1+n <= 253 {
				wantForms(t, u, s, ace+tail, wide+tail, api.OK)
			} else {
				wantBad(t, u, s, api.ErrLong)
			}
		}
	}
}

// P9.2: bytes are counted of the forms of ASCII, not of the domain as it came, nor of the one to be read.
func TestRoomOfForms(t *testing.T) {
	u := ucd.New()
	// Each of these has three bytes, and is folded to one letter.
	broad := strings.Repeat("\uff41", 63)
	wantForms(t, u, row(broad, 3)+"\u3002"+strings.Repeat("\uff41", 61), ofBytes(253), ofBytes(253), api.OK)
	wantBad(t, u, row(broad, 3)+"\u3002"+strings.Repeat("\uff41", 62), api.ErrLong)
	// Many that are alike are told by few digits.
	thick := strings.Repeat("\uac00", 50)
	ascii, e := ToASCII(u, row(thick, 4))
	if e != api.OK || len(ascii) > 253 || len(row(thick, 4)) < 600 {
		t.Fatalf("4 labels: %d bytes, by ASCII %d, %d", len(row(thick, 4)), len(ascii), e)
	}
	wantForms(t, u, ascii, ascii, row(thick, 4), api.OK)
	wantForms(t, u, row(thick, 4), ascii, row(thick, 4), api.OK)
	// And fewer bytes than 253 may have more by ASCII.
	thin := row("\u00e4", 32)
	if len(thin) > 253 || len(row("xn--4ca", 32)) <= 253 {
		t.Fatalf("32 labels: %d bytes, by ASCII %d", len(thin), len(row("xn--4ca", 32)))
	}
	wantBad(t, u, thin, api.ErrLong)
	wantBad(t, u, row("xn--4ca", 32), api.ErrLong)
	wantForms(t, u, row("\u00e4", 31), row("xn--4ca", 31), row("\u00e4", 31), api.OK)
}

// P9.3: domains that are the same but for great letters, dots, normal forms, width and the sign.
func TestSame(t *testing.T) {
	u := ucd.New()
	for _, group := range [][]string{
		{"a.b", "A.b", "a.B", "A.B", "a\u3002b", "a\uff0eb", "\uff21.\uff42"},
		{"\u00e4", "\u00c4", "a\u0308", "A\u0308", "xn--4ca", "XN--4CA", "xN--4Ca", "\uff58n--4ca", "\uff21\u0308"},
		{"b\u00fccher.de", "B\u00dcCHER\u3002DE", "xn--bcher-kva.de", "Xn--BCHER-kva.De", "bu\u0308cher.de"},
		{"\u00e4.\u00e4", "xn--4ca.\u00e4", "\u00e4.xn--4ca", "XN--4CA\u3002A\u0308"},
		{"k", "K", "\u212a"},
		{"b", "B"},
		{"a"},
		{"a.b.c", "A.B.C"},
		{"b.a"},
		{"ab"},
		{"a-b"},
		{"\u00e5", "\u212b", "xn--5ca"},
		{"\uac00", "\u1100\u1161", "xn--o39a"},
	} {
		for _, one := range group {
			for _, other := range group {
				if !Same(u, one, other) {
					t.Errorf("Same of %+q and %+q: got false", one, other)
				}
			}
			for _, other := range []string{"c", "a.c", "a.b.d", "\u00f6", "xn--nda", "xn--bcher-kvb.de", ""} {
				if Same(u, one, other) || Same(u, other, one) {
					t.Errorf("Same of %+q and %+q: got true", one, other)
				}
			}
		}
	}
}

// P9.3: what is wrong is the same as nothing, not even as what tells the same error.
func TestSameOfWrong(t *testing.T) {
	u := ucd.New()
	bad := []string{"", ".", "a.", "a..b", "\xff", "-a", "a_", "\u0301", "\u05d0a", "xn--", "xn--!", a(64), row("a", 33), ofBytes(254)}
	for _, one := range bad {
		for _, other := range append(bad, "a", "\u00e4", "a.b") {
			if Same(u, one, other) || Same(u, other, one) {
				t.Errorf("Same of %+q and %+q: got true", one, other)
			}
		}
	}
}

// P9.3: each two of the right ones are the same just if their forms are.
func TestSameOfRight(t *testing.T) {
	u := ucd.New()
	for _, one := range right {
		for _, other := range right {
			if got := Same(u, one.s, other.s); got != (one.ascii == other.ascii) {
				t.Errorf("Same of %+q and %+q: got %v", one.s, other.s, got)
			}
		}
	}
}

// P9.3: what is ASCII stays as it is written; what is not is told by ASCII.
func TestDown(t *testing.T) {
	u := ucd.New()
	for s, want := range map[string]string{
		"a": "a", "A": "A", "A.b-C": "A.b-C", "XN--4CA.A": "XN--4CA.A", "xn--bcher-KVA": "xn--bcher-KVA", "Mail.Example.ORG": "Mail.Example.ORG", strings.ToUpper(ofBytes(253)): strings.ToUpper(ofBytes(253)), row("Z", 32): row("Z", 32),
		"\u00e4": "xn--4ca", "\u00c4.B": "xn--4ca.b", "B.\u00c4": "b.xn--4ca", "A\u3002B": "a.b", "A\uff0eB": "a.b", "\uff21": "a", "\u212a.K": "k.k", "a\u0308": "xn--4ca", "XN--4CA.\u00e4": "xn--4ca.xn--4ca", "B\u00dccher.De": "xn--bcher-kva.de",
	} {
		if got, e := Down(u, s); got != want || e != api.OK {
			t.Errorf("Down of %+q: got %+q, %d, want %+q", s, got, e, want)
		}
	}
	for s, want := range map[string]api.Errno{
		"": api.ErrEmpty, "A.": api.ErrEmpty, "A..B": api.ErrEmpty, "-A": api.ErrDash, "A_B": api.ErrChar, "XN--": api.ErrForm, "XN--!": api.ErrPuny, strings.ToUpper(a(64)): api.ErrLong, ofBytes(254): api.ErrLong, row("A", 33): api.ErrFull,
		"\xff": api.ErrUtf, "\u00e4.": api.ErrEmpty, "\u05d0A": api.ErrBidi, "A.\u0301": api.ErrMark, row("\u00e4", 33): api.ErrFull, row("\u00e4", 32): api.ErrLong,
	} {
		if got, e := Down(u, s); got != "" || e != want {
			t.Errorf("Down of %+q: got %+q, %d, want %d", s, got, e, want)
		}
	}
}

// checkFollows is P9.4 of a domain that is right.
func checkFollows(t *testing.T, u ucd.Table, s string) {
	t.Helper()
	ascii, _ := ToASCII(u, s)
	wide, _ := ToUnicode(u, s)
	wantForms(t, u, ascii, ascii, wide, api.OK)
	wantForms(t, u, wide, ascii, wide, api.OK)
	down, e := Down(u, s)
	if e != api.OK || utf.Eight(down) >= 0 || !Same(u, s, down) || !Same(u, down, s) {
		t.Errorf("Down of %+q: got %+q, %d", s, down, e)
	}
	if got, e := Down(u, down); got != down || e != api.OK {
		t.Errorf("Down of %+q: got %+q, %d", down, got, e)
	}
	if utf.Eight(ascii) >= 0 || len(ascii) > 253 || strings.Count(ascii, ".") != strings.Count(wide, ".") {
		t.Errorf("%+q: got %+q and %+q", s, ascii, wide)
	}
}

// checkAll holds every call on s against the slow reading, and what follows of them.
func checkAll(t *testing.T, u ucd.Table, s string) {
	t.Helper()
	labels, e := slowLabels(u, s)
	wantLabels(t, u, s, labels, e)
	ascii, wide, e := slowForms(u, s)
	wantForms(t, u, s, ascii, wide, e)
	want, f := slowDown(u, s)
	if got, e := Down(u, s); got != want || e != f {
		t.Errorf("Down of %+q: got %+q, %d, want %+q, %d", s, got, e, want, f)
	}
	for _, other := range []string{s, "a", strings.ToUpper(s), ascii} {
		if got, want := Same(u, s, other), slowSame(u, s, other); got != want {
			t.Errorf("Same of %+q and %+q: got %v", s, other, got)
		}
	}
	if e == api.OK {
		checkFollows(t, u, s)
	}
}

// P9.4: of all that is right, and at each limit.
func TestFollows(t *testing.T) {
	u := ucd.New()
	for _, c := range right {
		checkAll(t, u, c.s)
	}
	for _, s := range []string{row("A", 32), row("\u4e00", 31), ofBytes(253), row(han, 16) + "\u3002" + a(13), row("XN--4CA", 31)} {
		checkAll(t, u, s)
		checkFollows(t, u, s)
	}
}

// P9.1 to P9.4: all short texts of what labels and dots are made of.
func TestShortTexts(t *testing.T) {
	u := ucd.New()
	rows.Texts([]string{"a", "A", "-", "_", ".", "\u3002", "\uff0e", "\u00e4", "\u0308", "\u05d0", "xn--", "4ca", "\xff"}, 4, func(s string) { checkAll(t, u, s) })
	rows.Texts([]string{"a", ".", "-", "\u3002", "\u00c4"}, 6, func(s string) { checkAll(t, u, s) })
}

// W1: long texts come to an end, and soon.
func TestLongTexts(t *testing.T) {
	u := ucd.New()
	const many = 1 << 16
	for _, c := range []struct {
		s string
		e api.Errno
	}{
		{strings.Repeat(".", many), api.ErrFull},
		{strings.Repeat("a.", many), api.ErrFull},
		{strings.Repeat("\u3002", many), api.ErrFull},
		{strings.Repeat("\u00e4\uff0e", many), api.ErrFull},
		{a(many), api.ErrLong},
		{a(many) + ".", api.ErrLong},
		{strings.Repeat("\u00e4", many) + ".", api.ErrLong},
		{"a." + strings.Repeat("\u0301", many), api.ErrMark},
		{row("xn--"+a(many/32), 32), api.ErrLong},
		{strings.Repeat("a.", many) + "\xff", api.ErrUtf},
		{strings.Repeat("\xff.", many), api.ErrUtf},
	} {
		wantBad(t, u, c.s, c.e)
	}
}
