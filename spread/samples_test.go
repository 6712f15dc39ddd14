package spread_test

import (
	"math"
	"slices"
	"strconv"
	"strings"

	"reredos/api"
	"reredos/scalar"
)

// The signs of scalar's chapter, in its turn.
const (
	dyads  = "+-*%!&|<>=~"
	monads = "-~*"
)

// signs are a text's bytes, each one as a text.
func signs(s string) []string { return strings.Split(s, "") }

// ints is a list, written short.
func ints(l ...int) []int { return l }

// texts is a list, written short.
func texts(l ...string) []string { return l }

// of is an array, written short.
func of(s []int, elems ...string) api.Val { return api.Val{Shape: s, Elems: elems} }

// row is an array of one axis, its elements in a text.
func row(elems string) api.Val {
	l := strings.Fields(elems)
	return of(ints(len(l)), l...)
}

// only is an array of no axis.
func only(s string) api.Val { return of(nil, s) }

// zero is what is told beside an error.
var zero api.Val

// like tells whether two arrays are the same to this file's own eyes; nil and empty are (R2).
func like(a, b api.Val) bool {
	return slices.Equal(a.Shape, b.Shape) && slices.Equal(a.Elems, b.Elems)
}

// nines are the most that so many figures tell.
func nines(n int) string { return strings.Repeat("9", n) }

// power is 10^n.
func power(n int) string { return "1" + strings.Repeat("0", n) }

// numbers are some of all kinds, up to 100 figures; what is made of some is too large.
func numbers() []string {
	l := texts("0")
	for _, s := range texts("1", "2", "3", "7", "10", "128", "4097", "9223372036854775807", "9223372036854775808", power(50), nines(99), power(99), nines(100)) {
		l = append(l, s, "-"+s)
	}
	return l
}

// noNumbers are texts that no element may be.
func noNumbers() []string {
	return texts("", "-", "_", "--1", "-0", "00", "01", "-01", "+1", " 1", "1 ", "1 2", "_1", "1.0", "1e3", "0x1", "a", "1a", "1\x00", "\xff", "٣", nines(101), "-"+nines(101), power(100), "0"+nines(99))
}

// noSigns are texts that no sign of two numbers is: nothing, each other byte, each two bytes of which one is a sign, the signs side by side, and what looks like one.
func noSigns() []string {
	l := texts("", "+-*", "%!&", "<=>", dyads, monads, "+ +", "plus", "\u2212", "\u00d7", "\u00f7", "\u2264", "\uff0b", "+\x00", "-1", "F", "x", "{", strings.Repeat("+", 5000))
	for i := range 256 {
		c := string([]byte{byte(i)})
		if !strings.Contains(dyads, c) {
			l = append(l, c)
		}
		for _, s := range signs(dyads) {
			l = append(l, s+c, c+s)
		}
	}
	return l
}

// noMonads are texts that no sign of one number is: the others, and what is a sign of two alone.
func noMonads() []string {
	return append(noSigns(), signs("+%!&|<>=")...)
}

// product is how many elements a shape has that may be.
func product(s []int) int {
	n := 1
	for _, axis := range s {
		n *= axis
	}
	return n
}

// counted is the array of a shape whose elements are so much and where they stand.
func counted(s []int, from int) api.Val {
	v := api.Val{Shape: s}
	for i := range product(s) {
		v.Elems = append(v.Elems, strconv.Itoa(from+i))
	}
	return v
}

// filled is the array of a shape, all of whose elements are the same.
func filled(s []int, elem string) api.Val {
	return of(s, slices.Repeat(texts(elem), product(s))...)
}

// small are shapes of each number of axes, with an axis of 0, of 1 and of more in each place, and each two of them turned round.
func small() [][]int {
	l := [][]int{nil, ints(5), ints(6), ints(7), ints(4, 2), ints(2, 4), ints(1, 6), ints(6, 1), ints(2, 3, 4), ints(4, 3, 2), ints(3, 2, 4), ints(1, 1, 6)}
	for a := range 4 {
		l = append(l, ints(a))
		for b := range 4 {
			l = append(l, ints(a, b))
			for c := range 4 {
				l = append(l, ints(a, b, c))
			}
		}
	}
	return l
}

// full are the shapes of as many elements as there may be.
func full() [][]int {
	return [][]int{ints(4096), ints(64, 64), ints(1, 4096), ints(4096, 1), ints(2, 2048), ints(16, 16, 16), ints(1, 1, 4096), ints(1, 4096, 1), ints(4096, 1, 1), ints(2, 4, 512)}
}

// hollow are shapes without an element, one axis of which is longer than there may be elements.
func hollow() [][]int {
	return [][]int{ints(0, 4097), ints(4097, 0), ints(0, 4097, 4097), ints(1<<40, 0), ints(0, 1<<40), ints(1<<40, 0, 1<<40), ints(1<<40, 1<<40, 0)}
}

// badShapes are some that may not be; the axes of some are multiplied to 0, 1 or 2, or round to these in 64 bits.
func badShapes() [][]int {
	return [][]int{ints(1, 1, 1, 1), ints(0, 0, 0, 0), ints(1, 1, 2, 1), ints(2, 1, 1, 1, 1), ints(-1), ints(math.MinInt), ints(-1, -1), ints(-1, -2), ints(2, -1), ints(-1, 2), ints(0, -1), ints(-1, 0), ints(1, 1, -1), ints(1, -1, -1), ints(4097), ints(64, 65), ints(16, 16, 17), ints(1<<40 + 1), ints(1<<40+1, 0), ints(0, 1<<40+1), ints(math.MaxInt, 0), ints(1<<32, 1<<32), ints(1<<40, 1<<24), ints(3, 6148914691236517206), make([]int, 5000)}
}

// bad are arrays that may not be: shapes, numbers of elements, and elements.
func bad() []api.Val {
	l := []api.Val{{}, of(ints()), of(nil, "1", "2"), of(ints(0), "1"), of(ints(1)), of(ints(1), "1", "2"), of(ints(2), "1"), of(ints(3), "1", "2"), of(ints(3), "1", "2", "3", "4"), of(ints(2, 3)), of(ints(2, 3), "1", "2", "3", "4", "5"), of(ints(2, 3), "1", "2", "3", "4", "5", "6", "7"), of(ints(3, 0), "1"), of(ints(0, 3), "1", "2", "3"), of(ints(1, 1, 1)), of(ints(1, 1, 1), "1", "2"), of(ints(1, 0, 1), "1")}
	for _, s := range noNumbers() {
		l = append(l, only(s), of(ints(1), s), of(ints(3), s, "1", "2"), of(ints(3), "1", s, "2"), of(ints(3), "1", "2", s), of(ints(2, 3), "1", "2", "3", s, "4", "5"), of(ints(1, 1, 3), "1", "2", s))
	}
	for _, s := range badShapes() {
		l = append(l, of(s), of(s, "1"), of(s, "1", "2"), of(s, "1", "2", "3"))
	}
	ones := slices.Repeat(texts("1"), 4352)
	return append(l, of(ints(4097), ones[:4097]...), of(ints(64, 65), ones[:64*65]...), of(ints(16, 16, 17), ones...), of(ints(4096), ones[:4095]...), of(ints(4096), ones[:4097]...))
}

// good are arrays that may be: of each shape, counted, of alike elements, and of any.
func good() []api.Val {
	r := random(13)
	var l []api.Val
	for _, s := range slices.Concat(small(), hollow()) {
		l = append(l, counted(s, 1), filled(s, "-3"), filled(s, "0"), r.array(s))
	}
	for _, n := range numbers() {
		l = append(l, only(n), of(ints(1), n), of(ints(1, 1, 1), n))
	}
	return l
}

// random is a row of numbers that is the same each time.
type random uint64

func (r *random) below(n int) int {
	*r = *r*6364136223846793005 + 1442695040888963407
	return int(uint64(*r)>>33) % n
}

// array is one of a shape, with any elements, small ones for the most part.
func (r *random) array(s []int) api.Val {
	all := numbers()
	v := api.Val{Shape: s}
	for range product(s) {
		n := strconv.Itoa(r.below(41) - 20)
		if r.below(8) == 0 {
			n = all[r.below(len(all))]
		}
		v.Elems = append(v.Elems, n)
	}
	return v
}

// laid are an array's elements at each of so many places: of no axis its only one again and again.
func laid(v api.Val, many int) []string {
	if len(v.Shape) == 0 {
		return slices.Repeat(v.Elems, many)
	}
	return v.Elems
}

// said says the chapter's words of a sign and two arrays that may be, once more.
func said(op string, v, w api.Val) (api.Val, api.Errno) {
	met := v.Shape
	if len(v.Shape) == 0 {
		met = w.Shape
	} else if len(w.Shape) > 0 && !slices.Equal(v.Shape, w.Shape) {
		return zero, api.ErrShape
	}
	many := product(met)
	left, right := laid(v, many), laid(w, many)
	told := of(met)
	for i := range many {
		x, err := scalar.Dyad(op, left[i], right[i])
		if err != api.OK {
			return zero, err
		}
		told.Elems = append(told.Elems, x)
	}
	return told, api.OK
}

// saidOfOne says them of one array that may be.
func saidOfOne(op string, v api.Val) (api.Val, api.Errno) {
	told := of(v.Shape)
	for _, a := range v.Elems {
		x, err := scalar.Monad(op, a)
		if err != api.OK {
			return zero, err
		}
		told.Elems = append(told.Elems, x)
	}
	return told, api.OK
}

// long tells the begin of a text that is too long to be told.
func long(s string) string {
	if len(s) > 200 {
		return strconv.Quote(s[:120]) + " and so on, " + strconv.Itoa(len(s)) + " bytes"
	}
	return strconv.Quote(s)
}

// short tells so of an array.
func short(v api.Val) string {
	axes := ""
	for _, axis := range v.Shape[:min(len(v.Shape), 5)] {
		axes += strconv.Itoa(axis) + " "
	}
	return "[" + strconv.Itoa(len(v.Shape)) + " axes: " + axes + "and " + strconv.Itoa(len(v.Elems)) + " elements: " + long(strings.Join(v.Elems[:min(len(v.Elems), 20)], " ")) + "]"
}
