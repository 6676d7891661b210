package norm

// The syllables of Hangul, and the first, second and third parts that they are made of. Syllables stand by their parts, the third one counting fastest, so no table is needed.
const (
	sylFirst = 0xac00
	sylLast  = 0xd7a3

	oneFirst = 0x1100
	oneLast  = 0x1112

	twoFirst = 0x1161
	twoLast  = 0x1175

	threeNone  = 0x11a7 // stands for no third part: it is none itself
	threeFirst = threeNone + 1
	threeLast  = 0x11c2
)

// How many syllables there are with one first part, and with one first and one second.
const (
	perOne = 588
	perTwo = 28
)

// isSyllable tells whether r is a syllable.
func isSyllable(r rune) bool { return sylFirst <= r && r <= sylLast }

// splitSyllable lays the two or three parts of a syllable behind out.
func splitSyllable(out []rune, r rune) []rune {
	s := r - sylFirst
	out = append(out, oneFirst+s/perOne, twoFirst+s%perOne/perTwo)
	if s%perTwo == 0 {
		return out
	}
	return append(out, threeNone+s%perTwo)
}

// joinSyllable tells the syllable that two parts make, or a syllable of two and a third part.
func joinSyllable(a, b rune) (rune, bool) {
	switch {
	case oneFirst <= a && a <= oneLast && twoFirst <= b && b <= twoLast:
		return sylFirst + (a-oneFirst)*perOne + (b-twoFirst)*perTwo, true
	case isSyllable(a) && (a-sylFirst)%perTwo == 0 && threeFirst <= b && b <= threeLast:
		return a + b - threeNone, true
	}
	return 0, false
}
