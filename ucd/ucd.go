// Package ucd is layer 1: what characters are: see shared/doc/01-ucd.md.
package ucd

import (
	"slices"
	"sort"

	"pillarbox/api"
)

// The wide characters, and how far ahead of each the one that it is made of stands.
const (
	wideFirst = 0xff01
	wideLast  = 0xff5e
	wideBy    = 0xfee0
)

// Table holds api's tables, since api makes them anew at every call. Nothing writes to them, so copies may share them.
type Table struct {
	ranges  []api.Range
	classes []api.Class
	lowers  []api.Lower
	splits  []api.Split
}

// New makes a table; of one that it did not make nothing is promised.
func New() Table {
	return Table{
		ranges:  api.Ranges(),
		classes: api.Classes(),
		lowers:  api.Lowers(),
		splits:  api.Splits(),
	}
}

// Cat is the category of r, CatNone if r is no character of the tables.
func (t Table) Cat(r rune) int { return t.rangeOf(r).Cat }

// Bidi is the direction of r.
func (t Table) Bidi(r rune) int { return t.rangeOf(r).Bidi }

// Join is how r joins.
func (t Table) Join(r rune) int { return t.rangeOf(r).Join }

// Script is the script of r.
func (t Table) Script(r rune) int { return t.rangeOf(r).Script }

// Class is the combining class of r, 0 if it has none.
func (t Table) Class(r rune) int {
	row, is := find(t.classes, r, func(c api.Class) (rune, rune) { return c.Lo, c.Hi })
	if !is {
		return 0
	}
	return row.Class + row.Step*int(r-row.Lo)
}

// Lower is the small letter of r, or r itself.
func (t Table) Lower(r rune) rune {
	row, is := find(t.lowers, r, func(l api.Lower) (rune, rune) { return l.Lo, l.Hi })
	if !is {
		return r
	}
	return r + row.By
}

// Split tells what r is made of, and false if it is made of nothing else.
func (t Table) Split(r rune) (api.Split, bool) {
	if row, is := find(t.splits, r, func(s api.Split) (rune, rune) { return s.Rune, s.Rune }); is {
		return row, true
	}
	if wideFirst <= r && r <= wideLast {
		return api.Split{Rune: r, One: r - wideBy, Soft: true, Out: true}, true
	}
	return api.Split{}, false
}

// Pair tells the character that is made again of a and b.
func (t Table) Pair(a, b rune) (rune, bool) {
	// In a row a Two of 0 stands for nothing, so it must not be met by a character 0.
	if b == 0 {
		return 0, false
	}
	at := slices.IndexFunc(t.splits, func(s api.Split) bool {
		return !s.Soft && !s.Out && s.One == a && s.Two == b
	})
	if at < 0 {
		return 0, false
	}
	return t.splits[at].Rune, true
}

// Letter tells whether r is a letter of any kind.
func (t Table) Letter(r rune) bool {
	switch t.Cat(r) {
	case api.CatUpper, api.CatLower, api.CatLetter:
		return true
	}
	return false
}

// rangeOf is the range that r is in, a zero one if there is none: its fields are what is told of such an r.
func (t Table) rangeOf(r rune) api.Range {
	row, _ := find(t.ranges, r, func(x api.Range) (rune, rune) { return x.Lo, x.Hi })
	return row
}

// find tells the row that r is in. The rows rise and do not overlap, so none but the first that does not end ahead of r can have it.
func find[R any](rows []R, r rune, ends func(R) (rune, rune)) (R, bool) {
	at := sort.Search(len(rows), func(i int) bool {
		_, hi := ends(rows[i])
		return r <= hi
	})
	if at < len(rows) {
		if lo, _ := ends(rows[at]); lo <= r {
			return rows[at], true
		}
	}
	var none R
	return none, false
}
