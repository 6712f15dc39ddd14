package shape_test

import (
	"math"
	"math/big"
	"slices"
	"sync"
	"testing"

	"reredos/api"
	"reredos/shape"
)

// The calls, with the exact signatures that the chapter lists.
var (
	_ func(s []int) bool                   = shape.May
	_ func(s []int) (int, api.Errno)       = shape.Size
	_ func(s, at []int) (int, bool)        = shape.Offset
	_ func(s []int, off int) ([]int, bool) = shape.Place
	_ func(a, b []int) ([]int, api.Errno)  = shape.Meet
	_ func(s []int) (int, []int)           = shape.Items
	_ func(a, b []int) bool                = shape.Same
)

// ints is a list, written short.
func ints(l ...int) []int { return l }

// lists are all lists of n of some numbers.
func lists(n int, of []int) [][]int {
	if n == 0 {
		return [][]int{nil}
	}
	var l [][]int
	for _, shorter := range lists(n-1, of) {
		for _, x := range of {
			l = append(l, append(slices.Clone(shorter), x))
		}
	}
	return l
}

// upTo are all lists of at most n of some numbers.
func upTo(n int, of []int) [][]int {
	var l [][]int
	for k := range n + 1 {
		l = append(l, lists(k, of)...)
	}
	return l
}

// edgy are axes at and around all that the document names, those which are multiplied to near 2^63 and 2^64, and both ends.
func edgy() []int {
	return ints(math.MinInt, -1<<40, -1, 0, 1, 2, 3, 16, 17, 64, 1365, 2048, 4095, 4096, 4097, 1<<23, 1<<24, 1<<31, 1<<32, 1<<40-1, 1<<40, 1<<40+1, 1<<62, math.MaxInt)
}

// small are whole shapes that are soon gone through, with axes of 0 among them.
func small() [][]int {
	return append(upTo(3, ints(0, 1, 2, 3, 5)), ints(7), ints(4096), ints(1, 4096), ints(4096, 1, 1), ints(64, 64), ints(16, 16, 16), ints(2, 2048), ints(3, 1365), ints(1<<40, 0), ints(0, 1<<40, 1<<40), ints(1<<40, 1<<40, 0))
}

// badShapes are shapes that may not be, each with its error.
func badShapes() map[api.Errno][][]int {
	return map[api.Errno][][]int{
		api.ErrRank: {ints(1, 1, 1, 1), ints(0, 0, 0, 0), ints(2, 3, 4, 5, 6), ints(-1, 1, 1, 1), ints(1, 1, 1, -1), ints(4097, 1, 1, 1), ints(1<<40+1, 1, 1, 1), ints(math.MinInt, math.MaxInt, -1, 4097), make([]int, 5000)},
		api.ErrDom:  {ints(-1), ints(math.MinInt), ints(0, -1), ints(-1, 0), ints(-1, -1), ints(2, -3, 4), ints(1, 1, -1), ints(-2, -2, 1), ints(4097, -1), ints(-1, 4097), ints(1<<40+1, -1), ints(-1, 1<<40+1), ints(1<<40+1, 1<<40+1, -1), ints(math.MaxInt, 0, -1), ints(4096, 4096, -1)},
		api.ErrBig:  {ints(4097), ints(1 << 40), ints(1<<40 + 1), ints(math.MaxInt), ints(1<<40+1, 0), ints(0, 1<<40+1), ints(0, 0, 1<<40+1), ints(1<<40+1, 1, 0), ints(0, math.MaxInt), ints(2, 2049), ints(64, 65), ints(65, 64), ints(1, 4097), ints(16, 16, 17), ints(17, 16, 16), ints(3, 1366), ints(1<<32, 1<<32), ints(1<<31, 1<<32), ints(1<<40, 1<<24), ints(1<<40, 1<<23), ints(1<<40, 1<<40, 1<<40), ints(1<<24, 1<<40, 1), ints(1<<22, 1<<22, 1<<20), ints(1<<21, 1<<21, 1<<21), ints(1<<40, 1<<24, 1<<12), ints(3, 6148914691236517206)},
	}
}

// told is what the chapter's words make of a shape, in whole numbers.
func told(s []int) (int, api.Errno) {
	if len(s) > 3 {
		return 0, 3
	}
	if len(s) > 0 && slices.Min(s) < 0 {
		return 0, 5
	}
	size := big.NewInt(1)
	for _, axis := range s {
		if axis > 1<<40 {
			return 0, 8
		}
		size.Mul(size, big.NewInt(int64(axis)))
	}
	if size.Cmp(big.NewInt(4096)) > 0 {
		return 0, 8
	}
	return int(size.Int64()), 0
}

func TestSize(t *testing.T) { // P3.1
	for _, c := range []struct {
		s    []int
		want int
	}{
		{nil, 1}, {ints(), 1},
		{ints(0), 0}, {ints(1), 1}, {ints(7), 7}, {ints(4095), 4095}, {ints(4096), 4096},
		{ints(2, 3), 6}, {ints(3, 2), 6}, {ints(1, 1), 1}, {ints(0, 5), 0}, {ints(5, 0), 0}, {ints(0, 0), 0}, {ints(64, 64), 4096}, {ints(1, 4096), 4096}, {ints(4096, 1), 4096}, {ints(63, 65), 4095},
		{ints(2, 3, 4), 24}, {ints(1, 1, 1), 1}, {ints(16, 16, 16), 4096}, {ints(4096, 1, 1), 4096}, {ints(1, 1, 4096), 4096}, {ints(2, 3, 0), 0}, {ints(0, 0, 0), 0},
		{ints(0, 4097), 0}, {ints(4097, 0), 0}, {ints(4097, 4097, 0), 0}, // no element, however long the other axes
		{ints(1<<40, 0), 0}, {ints(0, 1<<40), 0}, {ints(1<<40, 1<<40, 0), 0}, {ints(0, 1<<40, 1<<40), 0}, {ints(1<<40, 0, 1<<40), 0}, {ints(1<<32, 0, 1<<32), 0},
	} {
		if size, err := shape.Size(c.s); size != c.want || err != api.OK {
			t.Errorf("Size(%v): %d, %d", c.s, size, err)
		}
		if !shape.May(c.s) {
			t.Errorf("May(%v): false", c.s)
		}
	}
}

func TestSizeOfWhatMayNotBe(t *testing.T) { // P3.1, R1: the error that is named first, and nothing beside it
	for want, l := range badShapes() {
		for _, s := range l {
			if size, err := shape.Size(s); size != 0 || err != want {
				t.Errorf("Size(%v): %d, %d; not %d", s, size, err, want)
			}
			if shape.May(s) {
				t.Errorf("May(%v): true", s)
			}
		}
	}
}

func TestSizeIsOfWholeNumbers(t *testing.T) { // P3.1
	shapes := append(upTo(3, edgy()), lists(4, ints(math.MinInt, -1, 0, 1, 4097, 1<<40+1))...)
	shapes = append(shapes, lists(5, ints(-1, 0, 1))...)
	for n := range 300 {
		shapes = append(shapes, ints(n, 4096/(n+1)), ints(4100/(n+1), n), ints(n, 64, 2))
	}
	for _, s := range shapes {
		want, wantErr := told(s)
		size, err := shape.Size(s)
		if size != want || err != wantErr {
			t.Errorf("Size(%v): %d, %d; not %d, %d", s, size, err, want, wantErr)
		}
		if shape.May(s) != (err == api.OK) {
			t.Errorf("May(%v): %v", s, shape.May(s))
		}
	}
}

func TestSame(t *testing.T) { // P3.1
	for _, c := range []struct {
		a, b []int
		want bool
	}{
		{nil, nil, true}, {nil, ints(), true}, {ints(), nil, true}, {ints(), ints(), true},
		{ints(2, 3), ints(2, 3), true}, {ints(2, 3), ints(3, 2), false}, {ints(2, 3), ints(2, 4), false}, {ints(1, 3), ints(2, 3), false},
		{ints(2), ints(2, 1), false}, {ints(2, 1), ints(2), false}, {ints(1, 2), ints(2), false}, {ints(1), nil, false}, {nil, ints(1), false}, {ints(0), nil, false}, {nil, ints(0), false},
		{ints(6), ints(2, 3), false}, {ints(0, 2), ints(0, 3), false}, {ints(1, 2, 3), ints(1, 2, 4), false}, {ints(1, 2, 3), ints(1, 2, 3), true},
		{ints(-1), ints(-1), true}, {ints(-1), ints(1), false}, {ints(1, 1, 1, 1), ints(1, 1, 1, 1), true}, {ints(1, 1, 1, 1), ints(1, 1, 1), false}, {ints(1, 1, 1, 1), ints(1, 1, 1, 2), false}, // lists that are no shapes, too
		{ints(math.MinInt, math.MaxInt), ints(math.MinInt, math.MaxInt), true}, {ints(4097), ints(4098), false},
	} {
		if got := shape.Same(c.a, c.b); got != c.want {
			t.Errorf("Same(%v, %v): %v", c.a, c.b, got)
		}
	}
}

func TestOffset(t *testing.T) { // P3.2
	for _, c := range []struct {
		s, at []int
		want  int
	}{
		{nil, nil, 0}, {ints(), ints(), 0}, {nil, ints(), 0},
		{ints(5), ints(0), 0}, {ints(5), ints(3), 3}, {ints(5), ints(4), 4}, {ints(4096), ints(4095), 4095},
		{ints(2, 3), ints(0, 0), 0}, {ints(2, 3), ints(0, 1), 1}, {ints(2, 3), ints(0, 2), 2}, {ints(2, 3), ints(1, 0), 3}, {ints(2, 3), ints(1, 2), 5},
		{ints(3, 2), ints(1, 0), 2}, {ints(3, 2), ints(2, 1), 5}, {ints(2, 3, 4), ints(1, 2, 3), 23}, {ints(2, 3, 4), ints(1, 0, 0), 12}, {ints(2, 3, 4), ints(0, 1, 0), 4}, {ints(2, 3, 4), ints(0, 0, 1), 1},
		{ints(1, 1, 1), ints(0, 0, 0), 0}, {ints(16, 16, 16), ints(15, 15, 15), 4095}, {ints(64, 64), ints(63, 0), 4032},
	} {
		if off, ok := shape.Offset(c.s, c.at); off != c.want || !ok {
			t.Errorf("Offset(%v, %v): %d, %v", c.s, c.at, off, ok)
		}
	}
}

// noOffset asks for a place that there isn't.
func noOffset(t *testing.T, s, at []int) {
	t.Helper()
	if off, ok := shape.Offset(s, at); off != 0 || ok {
		t.Errorf("Offset(%v, %v): %d, %v", s, at, off, ok)
	}
}

// noPlace asks for an offset that there isn't.
func noPlace(t *testing.T, s []int, off int) {
	t.Helper()
	if at, ok := shape.Place(s, off); len(at) != 0 || ok {
		t.Errorf("Place(%v, %d): %v, %v", s, off, at, ok)
	}
}

func TestOffsetBeyond(t *testing.T) { // P3.2, R1
	for _, s := range small() {
		for i, axis := range s {
			for _, x := range ints(-1, axis, axis+1, math.MinInt, math.MaxInt, -axis-1) {
				at := make([]int, len(s))
				at[i] = x
				noOffset(t, s, at)
				for k := range at {
					if k != i {
						at[k] = max(s[k]-1, 0)
					}
				}
				noOffset(t, s, at)
			}
		}
	}
	noOffset(t, ints(2, 3), ints(0, 3)) // it isn't the next row's first one
	noOffset(t, ints(2, 3), ints(1, -1))
	noOffset(t, ints(1<<40, 1<<40, 0), ints(1<<24, 1<<23, 0)) // nor one round the int's end
	noOffset(t, ints(1<<40, 0), ints(1<<40-1, 0))
	noOffset(t, ints(1<<40, 0), ints(0, 0))
}

func TestTooFewPlacesAndTooMany(t *testing.T) { // P3.2
	for _, s := range small() {
		for n := range 6 {
			if n != len(s) {
				noOffset(t, s, make([]int, n))
			}
		}
	}
	noOffset(t, nil, ints(0))
	noOffset(t, ints(1), nil)
	noOffset(t, ints(2, 3), ints(1))
	noOffset(t, ints(2, 3), ints(5))
	noOffset(t, ints(2, 3), ints(1, 2, 0))
	noOffset(t, ints(2, 3), ints(0, 1, 2))
}

func TestPlace(t *testing.T) { // P3.2
	for _, c := range []struct {
		s    []int
		off  int
		want []int
	}{
		{nil, 0, nil}, {ints(), 0, nil},
		{ints(5), 0, ints(0)}, {ints(5), 4, ints(4)}, {ints(4096), 4095, ints(4095)}, {ints(1), 0, ints(0)},
		{ints(2, 3), 0, ints(0, 0)}, {ints(2, 3), 2, ints(0, 2)}, {ints(2, 3), 3, ints(1, 0)}, {ints(2, 3), 5, ints(1, 2)}, {ints(3, 2), 2, ints(1, 0)}, {ints(3, 2), 5, ints(2, 1)},
		{ints(2, 3, 4), 23, ints(1, 2, 3)}, {ints(2, 3, 4), 12, ints(1, 0, 0)}, {ints(2, 3, 4), 4, ints(0, 1, 0)}, {ints(2, 3, 4), 0, ints(0, 0, 0)}, {ints(16, 16, 16), 4095, ints(15, 15, 15)}, {ints(1, 1, 7), 6, ints(0, 0, 6)},
	} {
		if at, ok := shape.Place(c.s, c.off); !slices.Equal(at, c.want) || !ok {
			t.Errorf("Place(%v, %d): %v, %v", c.s, c.off, at, ok)
		}
	}
}

func TestPlaceBeyond(t *testing.T) { // P3.2, R1
	for _, s := range small() {
		size, _ := told(s)
		for _, off := range ints(-1, -size, -size-1, size, size+1, 2*size+1, 1<<40, math.MinInt, math.MaxInt) {
			if off < 0 || off >= size {
				noPlace(t, s, off)
			}
		}
	}
	for _, off := range ints(-1, 0, 1, 5) { // where there is no element, there is none at 0
		for _, s := range [][]int{ints(0), ints(0, 3), ints(3, 0), ints(2, 0, 4), ints(1<<40, 1<<40, 0)} {
			noPlace(t, s, off)
		}
	}
}

func TestNothingStandsInWhatMayNotBe(t *testing.T) { // P3.2, R1, R5
	for _, l := range badShapes() {
		for _, s := range l {
			for _, off := range ints(math.MinInt, -1, 0, 1, 2, 4095, 4096, math.MaxInt) {
				noPlace(t, s, off)
			}
			last := slices.Clone(s)
			for i := range last {
				last[i]--
			}
			for _, at := range [][]int{nil, make([]int, len(s)), last, s, ints(0), ints(-1), ints(0, 0, 0)} {
				noOffset(t, s, at)
			}
		}
	}
}

// next are the places behind some, the last axis first; nothing behind the last ones.
func next(s, at []int) []int {
	at = slices.Clone(at)
	for i := len(s) - 1; i >= 0; i-- {
		if at[i]++; at[i] < s[i] {
			return at
		}
		at[i] = 0
	}
	return nil
}

func TestThereAndBack(t *testing.T) { // P3.4: whole shapes, in the places' own order
	for _, s := range small() {
		size, _ := told(s)
		at, passed := make([]int, len(s)), 0
		for off := range size {
			if got, ok := shape.Offset(s, at); got != off || !ok {
				t.Fatalf("Offset(%v, %v): %d, %v; not %d", s, at, got, ok, off)
			}
			if got, ok := shape.Place(s, off); !slices.Equal(got, at) || !ok {
				t.Fatalf("Place(%v, %d): %v, %v; not %v", s, off, got, ok, at)
			}
			at, passed = next(s, at), passed+1
		}
		if passed > 0 && at != nil {
			t.Errorf("%v goes on behind %d elements", s, passed)
		}
	}
}

func TestOffsetsRiseAsPlacesDo(t *testing.T) { // P3.4: each pair of one shape
	for _, s := range [][]int{ints(7), ints(2, 3), ints(3, 2), ints(5, 1), ints(1, 5), ints(2, 3, 4), ints(4, 1, 3)} {
		size, _ := told(s)
		for x := range size {
			for y := range size {
				a, okA := shape.Place(s, x)
				b, okB := shape.Place(s, y)
				m, okM := shape.Offset(s, a)
				n, okN := shape.Offset(s, b)
				if !okA || !okB || !okM || !okN || m != x || n != y || (slices.Compare(a, b) < 0) != (x < y) {
					t.Errorf("of %v %v stands at %d, %v at %d", s, a, x, b, y)
				}
			}
		}
	}
}

func TestMeet(t *testing.T) { // P3.3
	for _, c := range []struct{ a, b, want []int }{
		{nil, nil, nil}, {ints(), nil, nil}, {nil, ints(), nil},
		{ints(3), nil, ints(3)}, {nil, ints(3), ints(3)}, {ints(2, 3), ints(), ints(2, 3)}, {ints(), ints(2, 3), ints(2, 3)}, {nil, ints(2, 3, 4), ints(2, 3, 4)},
		{ints(3), ints(3), ints(3)}, {ints(2, 3), ints(2, 3), ints(2, 3)}, {ints(2, 3, 4), ints(2, 3, 4), ints(2, 3, 4)}, {ints(0), ints(0), ints(0)}, {nil, ints(0), ints(0)}, {ints(0), nil, ints(0)},
		{ints(-1), ints(-1), ints(-1)}, {ints(-1), nil, ints(-1)}, {nil, ints(-1), ints(-1)}, {ints(1, 1, 1, 1), nil, ints(1, 1, 1, 1)}, {nil, ints(1<<40 + 1), ints(1<<40 + 1)}, {ints(4097, 2), ints(4097, 2), ints(4097, 2)}, // the chapter leaves out none
	} {
		if got, err := shape.Meet(c.a, c.b); !slices.Equal(got, c.want) || err != api.OK {
			t.Errorf("Meet(%v, %v): %v, %d", c.a, c.b, got, err)
		}
	}
}

func TestUnlikeShapesDoNotMeet(t *testing.T) { // P3.3, R1
	for _, c := range [][2][]int{
		{ints(2), ints(3)}, {ints(1), ints(3)}, {ints(3), ints(1)}, {ints(0), ints(1)}, {ints(2, 3), ints(3, 2)}, {ints(2, 3), ints(2, 4)}, {ints(2, 3), ints(1, 3)},
		{ints(2), ints(2, 3)}, {ints(3), ints(2, 3)}, {ints(2, 3), ints(3)}, {ints(2, 3), ints(2)}, {ints(6), ints(2, 3)}, {ints(1), ints(1, 1)}, {ints(1, 1), ints(1)}, {ints(2, 3, 4), ints(2, 3)}, {ints(3, 4), ints(2, 3, 4)}, {ints(0, 2), ints(0, 3)},
		{ints(-1), ints(1)}, {ints(-1), ints(-2)}, {ints(1, 1, 1, 1), ints(1, 1, 1)}, {ints(1), ints(1, 1, 1, 1)}, {ints(1<<40 + 1), ints(1 << 40)},
	} {
		if got, err := shape.Meet(c[0], c[1]); len(got) != 0 || err != api.ErrShape {
			t.Errorf("Meet(%v, %v): %v, %d", c[0], c[1], got, err)
		}
	}
}

func TestMeetOfAll(t *testing.T) { // P3.3
	all := upTo(3, ints(0, 1, 2, 3))
	for _, a := range all {
		for _, b := range all {
			want, wantErr := a, api.OK
			switch {
			case len(a) == 0:
				want = b
			case len(b) > 0 && !slices.Equal(a, b):
				want, wantErr = nil, api.ErrShape
			}
			if got, err := shape.Meet(a, b); !slices.Equal(got, want) || err != wantErr {
				t.Errorf("Meet(%v, %v): %v, %d", a, b, got, err)
			}
		}
	}
}

func TestItems(t *testing.T) { // P3.3
	for _, c := range []struct {
		s    []int
		many int
		rest []int
	}{
		{nil, 1, nil}, {ints(), 1, nil},
		{ints(5), 5, nil}, {ints(1), 1, nil}, {ints(0), 0, nil}, {ints(2, 3), 2, ints(3)}, {ints(3, 2), 3, ints(2)}, {ints(0, 3), 0, ints(3)}, {ints(3, 0), 3, ints(0)}, {ints(2, 3, 4), 2, ints(3, 4)}, {ints(4096, 1, 1), 4096, ints(1, 1)},
		{ints(-1), -1, nil}, {ints(-7, 2), -7, ints(2)}, {ints(2, -7), 2, ints(-7)}, {ints(1, 2, 3, 4), 1, ints(2, 3, 4)}, {ints(math.MaxInt, math.MinInt), math.MaxInt, ints(math.MinInt)}, // the chapter leaves out none
	} {
		if many, rest := shape.Items(c.s); many != c.many || !slices.Equal(rest, c.rest) {
			t.Errorf("Items(%v): %d, %v", c.s, many, rest)
		}
	}
}

// answers are what all calls tell of two lists.
func answers(a, b []int) [][]int {
	size, err := shape.Size(a)
	off, ok := shape.Offset(a, b)
	at, is := shape.Place(a, len(b)*3)
	met, unlike := shape.Meet(a, b)
	many, rest := shape.Items(a)
	numbers := ints(size, int(err), off, int(unlike), many)
	for _, yes := range []bool{ok, is, shape.May(a), shape.Same(a, b)} {
		if yes {
			numbers = append(numbers, 1)
		} else {
			numbers = append(numbers, 0)
		}
	}
	return [][]int{numbers, at, met, rest}
}

// roomy is a list with room behind it, in which a 9 shows whether it was written to.
func roomy(s []int) (list, room []int) {
	room = append(slices.Clone(s), 9, 9, 9, 9)
	return room[:len(s)], room
}

// spoil writes all over a list that was handed out, also behind its end.
func spoil(l []int) {
	l = l[:cap(l)]
	for i := range l {
		l[i] = -77
	}
}

func TestAnswersAreNewMemory(t *testing.T) { // R3: nothing handed in is changed, none of it is handed out
	all := append(upTo(3, ints(-1, 0, 1, 2)), ints(1, 1, 1, 1))
	for _, a := range all {
		for _, b := range all {
			x, roomX := roomy(a)
			y, roomY := roomy(b)
			keptX, keptY := slices.Clone(roomX), slices.Clone(roomY)
			for _, l := range answers(x, y)[1:] {
				spoil(l)
			}
			if !slices.Equal(roomX, keptX) || !slices.Equal(roomY, keptY) {
				t.Errorf("%v and %v are %v and %v then", a, b, roomX, roomY)
			}
		}
	}
	s := ints(2, 3)
	one, _ := shape.Place(s, 5)
	other, _ := shape.Place(s, 5)
	spoil(one)
	if !slices.Equal(other, ints(1, 2)) {
		t.Errorf("two answers share %v", other)
	}
}

func TestAnswersHangOnNothingElse(t *testing.T) { // R4, P1, R2: asked again, the other way round, and side by side, of any lists
	all := append(upTo(2, edgy()), small()...)
	all = append(all, ints(), make([]int, 5), make([]int, 1000))
	for _, l := range badShapes() {
		all = append(all, l...)
	}
	ask := func(i int) [][]int { return answers(all[i], all[(i*7+3)%len(all)]) }
	var got [][][]int
	for i := range all {
		got = append(got, ask(i))
	}
	var group sync.WaitGroup
	for range 4 {
		group.Go(func() {
			for i := len(all) - 1; i >= 0; i-- {
				if l := ask(i); !slices.EqualFunc(l, got[i], slices.Equal[[]int]) {
					t.Errorf("%v: %v, and then %v", all[i], got[i], l)
				}
			}
		})
	}
	group.Wait()
}
