// Package rows makes what the tests of other packages try: all short texts of what counts there.
package rows

// Texts hands over all texts of up to n of some parts, the empty one first.
func Texts(parts []string, n int, take func(string)) {
	var grow func(string, int)
	grow = func(s string, left int) {
		take(s)
		if left == 0 {
			return
		}
		for _, p := range parts {
			grow(s+p, left-1)
		}
	}
	grow("", n)
}
