package spread

import (
	"iter"

	"reredos/api"
	"reredos/shape"
)

// pairs are the elements of two arrays at each place of the shape in which they meet, in turn.
func pairs(v, w api.Val, both []int) iter.Seq2[string, string] {
	size, _ := shape.Size(both) // it may be, as it is the shape of one that may be
	return func(yield func(a, b string) bool) {
		for i := range size {
			if !yield(element(v, i), element(w, i)) {
				return
			}
		}
	}
}

// element is the one that stands somewhere; the only one of an array of no axis stands everywhere.
func element(v api.Val, i int) string {
	if len(v.Shape) == 0 {
		return v.Elems[0]
	}
	return v.Elems[i]
}
