package prim_test

import (
	"math"
	"slices"
	"strconv"
	"strings"

	"reredos/api"
	"reredos/mould"
	"reredos/seek"
	"reredos/spread"
)

// ints is a list, written short.
func ints(l ...int) []int { return l }

// texts is a list, written short.
func texts(l ...string) []string { return l }

// of is an array, written short.
func of(s []int, elems ...string) api.Val { return api.Val{Shape: s, Elems: elems} }

// row is an array of one axis, its elements in a text.
func row(elems string) api.Val {
	l := strings.Fields(elems)
	return of(ints(len(l)), l...)
}

// grid is an array of a shape, its elements in a text.
func grid(s []int, elems string) api.Val { return of(s, strings.Fields(elems)...) }

// only is an array of no axis.
func only(s string) api.Val { return of(nil, s) }

// The signs that the chapters list, in their turn: those that spread, and the others, of one array and of two.
const (
	spreadOnes = "-~*"
	otherOnes  = "!#=,|+<>&?"
	spreadTwos = "+-*%!&|<>=~"
	otherTwos  = "#^$,?@"
)

// signs are a text's bytes, each one as a text.
func signs(s string) []string { return strings.Split(s, "") }

// ones are the signs of one array, twos those of two.
func ones() []string { return signs(spreadOnes + otherOnes) }

func twos() []string { return signs(spreadTwos + otherTwos) }

// noSigns are texts that are no sign at all: none, two and more at once, signs with a blank or another byte beside them, each other byte, names, marks, adverbs, and what looks like a sign.
func noSigns() []string {
	l := texts("", "+-*", spreadOnes, spreadTwos, "#^$,?@", "plus", "iota", "sum", "\u2212", "\u00d7", "\u00f7", "\u2264", "\uff0b", "-1", "_1", "{x+y}", "+/", "/+", "'", "`", "\\", "/", ".", ";", ":", "::", "+\x00", "\x00", strings.Repeat("+", 257), strings.Repeat("#", 100000))
	for i := range 256 {
		c := string([]byte{byte(i)})
		if !strings.Contains(spreadOnes+otherOnes+spreadTwos+otherTwos, c) {
			l = append(l, c)
		}
	}
	for _, s := range signs(spreadTwos + otherTwos) {
		l = append(l, s+s, s+" ", " "+s, s+"+", "#"+s, s+"a", "1"+s, s+"\xff", s+"\n")
	}
	return l
}

// zero is what is told beside an error.
var zero api.Val

// furthest is how far from 0 a number may be that is told as such.
const furthest = 1 << 40

// like tells whether two arrays are the same to this file's own eyes; nil and empty are (R2).
func like(a, b api.Val) bool {
	return slices.Equal(a.Shape, b.Shape) && slices.Equal(a.Elems, b.Elems)
}

// nines are the most that so many figures tell.
func nines(n int) string { return strings.Repeat("9", n) }

// power is 10^n.
func power(n int) string { return "1" + strings.Repeat("0", n) }

// far are numbers too far from 0 to be told as such, just beyond and much; some are small ones again in 64 or 32 bits.
func far() []string {
	var l []string
	for _, s := range texts("1099511627777", "2199023255552", "9223372036854775807", "9223372036854775808", "18446744073709551616", "18446744073709551617", power(50), nines(100)) {
		l = append(l, s, "-"+s)
	}
	return l
}

// noNumbers are texts that no element may be.
func noNumbers() []string {
	return texts("", "-", "_", "--1", "-0", "00", "01", "-01", "+1", " 1", "1 ", "1 2", "_1", "1.0", "1e3", "0x1", "a", "1a", "1\x00", "\xff", "٣", nines(101), "-"+nines(101), power(100), "0"+nines(99))
}

// product is how many elements a shape has that may be.
func product(s []int) int {
	n := 1
	for _, axis := range s {
		n *= axis
	}
	return n
}

// counted is the array of a shape whose elements are so much and where they stand.
func counted(s []int, from int) api.Val {
	v := api.Val{Shape: s}
	for i := range product(s) {
		v.Elems = append(v.Elems, strconv.Itoa(from+i))
	}
	return v
}

// filled is the array of a shape, all of whose elements are the same.
func filled(s []int, elem string) api.Val {
	return of(s, slices.Repeat(texts(elem), product(s))...)
}

// small are shapes of each number of axes, with an axis of 0, of 1 and of more in each place.
func small() [][]int {
	l := [][]int{nil, ints(5), ints(6), ints(1, 6), ints(6, 1), ints(2, 3, 4), ints(4, 3, 2)}
	for a := range 4 {
		l = append(l, ints(a))
		for b := range 4 {
			l = append(l, ints(a, b))
			for c := range 4 {
				l = append(l, ints(a, b, c))
			}
		}
	}
	return l
}

// full are the shapes of as many elements as there may be.
func full() [][]int {
	return [][]int{ints(4096), ints(64, 64), ints(1, 4096), ints(4096, 1), ints(2, 2048), ints(16, 16, 16), ints(1, 1, 4096), ints(1, 4096, 1), ints(4096, 1, 1), ints(2, 4, 512)}
}

// hollow are shapes without an element whose other axes are long, up to the longest that may be.
func hollow() [][]int {
	return [][]int{ints(0, 4097), ints(4097, 0), ints(0, 4097, 4097), ints(furthest, 0), ints(0, furthest), ints(furthest-1, 0), ints(furthest, 0, furthest), ints(furthest, furthest, 0), ints(0, furthest, furthest), ints(0, 0, furthest), ints(furthest, 0, 0), ints(0, furthest, 0), ints(3, furthest, 0), ints(1, 0, furthest)}
}

// shapes are all of these.
func shapes() [][]int { return slices.Concat(small(), full(), hollow()) }

// badShapes are some that may not be; the axes of some are multiplied to 0, 1 or 2, or round to these in 64 bits.
func badShapes() [][]int {
	return [][]int{ints(1, 1, 1, 1), ints(0, 0, 0, 0), ints(1, 1, 2, 1), ints(2, 1, 1, 1, 1), ints(-1), ints(math.MinInt), ints(-1, -1), ints(-1, -2), ints(2, -1), ints(-1, 2), ints(0, -1), ints(-1, 0), ints(1, 1, -1), ints(1, -1, -1), ints(4097), ints(64, 65), ints(16, 16, 17), ints(furthest + 1), ints(furthest+1, 0), ints(0, furthest+1), ints(math.MaxInt, 0), ints(1<<32, 1<<32), ints(furthest, 1<<24), ints(3, 6148914691236517206), make([]int, 5000)}
}

// bad are arrays that may not be: shapes, numbers of elements, and elements.
func bad() []api.Val {
	l := []api.Val{{}, of(ints()), of(nil, "1", "2"), of(ints(0), "1"), of(ints(1)), of(ints(1), "1", "2"), of(ints(2), "1"), of(ints(3), "1", "2"), of(ints(3), "1", "2", "3", "4"), of(ints(2, 3)), of(ints(2, 3), "1", "2", "3", "4", "5"), of(ints(2, 3), "1", "2", "3", "4", "5", "6", "7"), of(ints(3, 0), "1"), of(ints(0, 3), "1", "2", "3"), of(ints(1, 1, 1)), of(ints(1, 1, 1), "1", "2"), of(ints(1, 0, 1), "1")}
	for _, s := range noNumbers() {
		l = append(l, only(s), of(ints(1), s), of(ints(3), s, "1", "2"), of(ints(3), "1", s, "2"), of(ints(3), "1", "2", s), of(ints(2, 3), "1", "2", "3", s, "4", "5"), of(ints(1, 1, 3), "1", "2", s))
	}
	for _, s := range badShapes() {
		l = append(l, of(s), of(s, "1"), of(s, "1", "2"), of(s, "1", "2", "3"))
	}
	ones := slices.Repeat(texts("1"), 4352)
	return append(l, of(ints(4097), ones[:4097]...), of(ints(64, 65), ones[:64*65]...), of(ints(16, 16, 17), ones...), of(ints(4096), ones[:4095]...), of(ints(4096), ones[:4097]...))
}

// good are arrays that may be: of each shape, counted, of alike elements, and of any.
func good() []api.Val {
	r := random(16)
	var l []api.Val
	for _, s := range shapes() {
		l = append(l, counted(s, 0), filled(s, "-3"), r.array(s))
	}
	for _, n := range append(far(), "0", "1", "-1") {
		l = append(l, only(n), of(ints(1), n), of(ints(1, 1, 1), n))
	}
	return l
}

// vectors are some of each kind: of no element, of one, of many, that rise, that fall, of alike elements, of numbers on both sides of 0, small and long.
func vectors() []api.Val {
	r := random(5)
	l := []api.Val{row(""), row("7"), row("-1"), row(nines(100)), row("0 1 2 3 4"), row("4 3 2 1 0"), row("5 5 5 5"), row("30 10 20"), row("2 1 2 1 3 1"), row("1 2 1 2 0 2"), row("0 -1 1 -10 10 -9 9"), row("-1 -2 -1 -2 -3 -2"), row("0 0 1 0 1 1 0"), row("3 0 2 1"), longOnes(), counted(ints(4096), -2048), filled(ints(4096), "1"), filled(ints(4096), "0")}
	for _, n := range ints(2, 3, 4, 5, 7, 8, 9, 16, 33, 100) {
		l = append(l, r.array(ints(n)), r.upTo(n, 3), r.upTo(n, 2*n), r.shuffled(counted(ints(n), -n/2)))
	}
	return append(l, r.upTo(4096, 2), r.upTo(4096, 64), r.shuffled(counted(ints(4096), 0)))
}

// longOnes are numbers of up to a hundred figures, shuffled, some of them twice: those that differ only in the last figure, in how many figures they have, or in the sign.
func longOnes() api.Val {
	l := texts("0", "0")
	for n := range 100 {
		l = append(l, nines(n+1), "-"+nines(n+1), power(n), "-"+power(n))
	}
	for i := range 10 {
		last := strconv.Itoa(i)
		l = append(l, nines(99)+last, "-"+nines(99)+last, power(98)+last, "-"+power(98)+last, nines(17)+last, nines(18)+last, nines(19)+last, "-922337203685477580"+last, "922337203685477580"+last)
	}
	r := random(9)
	return r.shuffled(of(ints(len(l)), l...))
}

// random is a row of numbers that is the same each time.
type random uint64

func (r *random) below(n int) int {
	*r = *r*6364136223846793005 + 1442695040888963407
	return int(uint64(*r)>>33) % n
}

// array is one of a shape, with any elements, small ones for the most part.
func (r *random) array(s []int) api.Val {
	all := far()
	v := api.Val{Shape: s}
	for range product(s) {
		n := strconv.Itoa(r.below(41) - 20)
		if r.below(8) == 0 {
			n = all[r.below(len(all))]
		}
		v.Elems = append(v.Elems, n)
	}
	return v
}

// upTo is a vector of so many elements, from 0 to below a number.
func (r *random) upTo(many, below int) api.Val {
	v := of(ints(many))
	for range many {
		v.Elems = append(v.Elems, strconv.Itoa(r.below(below)))
	}
	return v
}

// shuffled is a vector whose elements stand in any turn.
func (r *random) shuffled(v api.Val) api.Val {
	v = of(v.Shape, slices.Clone(v.Elems)...)
	for i := range v.Elems {
		j := r.below(i + 1)
		v.Elems[i], v.Elems[j] = v.Elems[j], v.Elems[i]
	}
	return v
}

// named asks the call that the chapter names for a sign of one array.
func named(op string, v api.Val) (api.Val, api.Errno) {
	switch op {
	case "-", "~", "*":
		return spread.Monad(op, v)
	case "!":
		return mould.Iota(v)
	case "#":
		return mould.Tally(v)
	case "=":
		return mould.Shape(v)
	case ",":
		return mould.Ravel(v)
	case "|":
		return mould.Reverse(v)
	case "+":
		return mould.Flip(v)
	case "<":
		return seek.Up(v)
	case ">":
		return seek.Down(v)
	case "&":
		return seek.Where(v)
	case "?":
		return seek.Unique(v)
	}
	return zero, api.ErrArg
}

// namedOfTwo asks that of two.
func namedOfTwo(op string, v, w api.Val) (api.Val, api.Errno) {
	switch op {
	case "+", "-", "*", "%", "!", "&", "|", "<", ">", "=", "~":
		return spread.Dyad(op, v, w)
	case "#":
		return mould.Reshape(v, w)
	case "^":
		return mould.Take(v, w)
	case "$":
		return mould.Drop(v, w)
	case ",":
		return mould.Join(v, w)
	case "?":
		return seek.Find(v, w)
	case "@":
		return seek.Index(v, w)
	}
	return zero, api.ErrArg
}

// long tells the begin of a text that is too long to be told.
func long(s string) string {
	if len(s) > 200 {
		return strconv.Quote(s[:120]) + " and so on, " + strconv.Itoa(len(s)) + " bytes"
	}
	return strconv.Quote(s)
}

// short tells so of arrays.
func short(l ...api.Val) string {
	var all []string
	for _, v := range l {
		axes := ""
		for _, axis := range v.Shape[:min(len(v.Shape), 5)] {
			axes += strconv.Itoa(axis) + " "
		}
		all = append(all, "["+strconv.Itoa(len(v.Shape))+" axes: "+axes+"and "+strconv.Itoa(len(v.Elems))+" elements: "+long(strings.Join(v.Elems[:min(len(v.Elems), 20)], " "))+"]")
	}
	return strings.Join(all, ", ")
}
