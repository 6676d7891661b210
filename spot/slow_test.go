package spot

import (
	"math"
	"math/big"
	"strconv"
	"strings"
)

// slowEnds are the places behind the line's ends of s.
func slowEnds(s string) []int {
	var ends []int
	for k := 0; k+1 < len(s); k++ {
		if s[k] == 0xd && s[k+1] == 0xa {
			ends = append(ends, k+2)
		}
	}
	return ends
}

// slowPair is the line and the column of the place k: how many line's ends are whole ahead of it, and how far it stands behind the last one.
func slowPair(s string, k int) (int, int) {
	line, begin := 0, 0
	for _, end := range slowEnds(s) {
		if end <= k {
			line++
			begin = end
		}
	}
	return line, k - begin
}

// slowOf is the spot of the place k.
func slowOf(s string, k int) complex128 {
	if k < 0 {
		k = 0
	}
	if k > len(s) {
		k = len(s)
	}
	line, column := slowPair(s, k)
	return complex(float64(line), float64(column))
}

// slowNumber is a part as a number, by what it is written as in base 10.
func slowNumber(p float64) int {
	if math.IsNaN(p) || math.Signbit(p) {
		return 0
	}
	if math.IsInf(p, 1) {
		return 1 << 40
	}
	digits, _, _ := strings.Cut(strconv.FormatFloat(p, 'f', -1, 64), ".")
	n, _ := new(big.Int).SetString(digits, 10)
	if n.Cmp(big.NewInt(1<<40)) > 0 {
		return 1 << 40
	}
	return int(n.Int64())
}

// slowStep lays how far s goes behind c: its lines behind the line, its column behind the column, or in place of it if there are lines.
func slowStep(c complex128, s string) complex128 {
	line, column := slowPair(s, len(s))
	if line == 0 {
		column += slowNumber(imag(c))
	}
	return complex(float64(slowNumber(real(c))+line), float64(column))
}

// slowPlace asks each place of s for its spot.
func slowPlace(s string, c complex128) (int, bool) {
	for k := 0; k <= len(s); k++ {
		if slowOf(s, k) == c {
			return k, true
		}
	}
	return 0, false
}

// slowText is Text by strings alone.
func slowText(c complex128) string {
	return strconv.Itoa(slowNumber(real(c))+1) + ":" + strconv.Itoa(slowNumber(imag(c))+1)
}
