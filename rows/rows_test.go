package rows

import (
	"slices"
	"testing"
)

// What is left out here would be tried nowhere.
func TestTexts(t *testing.T) {
	for _, c := range []struct {
		parts []string
		n     int
		want  []string
	}{
		{nil, 2, []string{""}},
		{[]string{"a"}, 0, []string{""}},
		{[]string{"a"}, 3, []string{"", "a", "aa", "aaa"}},
		{[]string{"a", "bc"}, 2, []string{"", "a", "aa", "abc", "bc", "bca", "bcbc"}},
	} {
		var got []string
		Texts(c.parts, c.n, func(s string) { got = append(got, s) })
		if !slices.Equal(got, c.want) {
			t.Errorf("%q, %d: got %q, want %q", c.parts, c.n, got, c.want)
		}
	}
}
