package seek_test

import (
	"math"
	"math/big"
	"slices"
	"strconv"
	"strings"

	"reredos/api"
)

// ints is a list, written short.
func ints(l ...int) []int { return l }

// texts is a list, written short.
func texts(l ...string) []string { return l }

// of is an array, written short.
func of(s []int, elems ...string) api.Val { return api.Val{Shape: s, Elems: elems} }

// row is an array of one axis, its elements in a text.
func row(elems string) api.Val {
	l := strings.Fields(elems)
	return of(ints(len(l)), l...)
}

// grid is an array of a shape, its elements in a text.
func grid(s []int, elems string) api.Val { return of(s, strings.Fields(elems)...) }

// only is an array of no axis.
func only(s string) api.Val { return of(nil, s) }

// numbers is an array of one axis.
func numbers(l ...int) api.Val {
	v := of(ints(len(l)))
	for _, n := range l {
		v.Elems = append(v.Elems, strconv.Itoa(n))
	}
	return v
}

// zero is what is told beside an error.
var zero api.Val

// furthest is how far from 0 a number may be that is told as such.
const furthest = 1 << 40

// like tells whether two arrays are the same to this file's own eyes; nil and empty are (R2).
func like(a, b api.Val) bool {
	return slices.Equal(a.Shape, b.Shape) && slices.Equal(a.Elems, b.Elems)
}

// nines are the most that so many figures tell.
func nines(n int) string { return strings.Repeat("9", n) }

// power is 10^n.
func power(n int) string { return "1" + strings.Repeat("0", n) }

// far are numbers too far from 0 to be told as such, just beyond and much; some are small ones again in 64 or 32 bits.
func far() []string {
	var l []string
	for _, s := range texts("1099511627777", "2199023255552", "9223372036854775807", "9223372036854775808", "18446744073709551616", "18446744073709551617", power(50), nines(100)) {
		l = append(l, s, "-"+s)
	}
	return l
}

// noNumbers are texts that no element may be.
func noNumbers() []string {
	return texts("", "-", "_", "--1", "-0", "00", "01", "-01", "+1", " 1", "1 ", "1 2", "_1", "1.0", "1e3", "0x1", "a", "1a", "1\x00", "\xff", "٣", nines(101), "-"+nines(101), power(100), "0"+nines(99))
}

// product is how many elements a shape has that may be.
func product(s []int) int {
	n := 1
	for _, axis := range s {
		n *= axis
	}
	return n
}

// counted is the array of a shape whose elements are so much and where they stand.
func counted(s []int, from int) api.Val {
	v := api.Val{Shape: s}
	for i := range product(s) {
		v.Elems = append(v.Elems, strconv.Itoa(from+i))
	}
	return v
}

// filled is the array of a shape, all of whose elements are the same.
func filled(s []int, elem string) api.Val {
	return of(s, slices.Repeat(texts(elem), product(s))...)
}

// small are shapes of each number of axes, with an axis of 0, of 1 and of more in each place.
func small() [][]int {
	l := [][]int{nil, ints(5), ints(6), ints(1, 6), ints(6, 1), ints(2, 3, 4), ints(4, 3, 2)}
	for a := range 4 {
		l = append(l, ints(a))
		for b := range 4 {
			l = append(l, ints(a, b))
			for c := range 4 {
				l = append(l, ints(a, b, c))
			}
		}
	}
	return l
}

// full are the shapes of as many elements as there may be.
func full() [][]int {
	return [][]int{ints(4096), ints(64, 64), ints(1, 4096), ints(4096, 1), ints(2, 2048), ints(16, 16, 16), ints(1, 1, 4096), ints(1, 4096, 1), ints(4096, 1, 1), ints(2, 4, 512)}
}

// hollow are shapes without an element whose other axes are long, up to the longest that may be.
func hollow() [][]int {
	return [][]int{ints(0, 4097), ints(4097, 0), ints(0, 4097, 4097), ints(furthest, 0), ints(0, furthest), ints(furthest-1, 0), ints(furthest, 0, furthest), ints(furthest, furthest, 0), ints(0, furthest, furthest), ints(0, 0, furthest), ints(furthest, 0, 0), ints(0, furthest, 0), ints(3, furthest, 0), ints(1, 0, furthest)}
}

// shapes are all of these.
func shapes() [][]int { return slices.Concat(small(), full(), hollow()) }

// badShapes are some that may not be; the axes of some are multiplied to 0, 1 or 2, or round to these in 64 bits.
func badShapes() [][]int {
	return [][]int{ints(1, 1, 1, 1), ints(0, 0, 0, 0), ints(1, 1, 2, 1), ints(2, 1, 1, 1, 1), ints(-1), ints(math.MinInt), ints(-1, -1), ints(-1, -2), ints(2, -1), ints(-1, 2), ints(0, -1), ints(-1, 0), ints(1, 1, -1), ints(1, -1, -1), ints(4097), ints(64, 65), ints(16, 16, 17), ints(furthest + 1), ints(furthest+1, 0), ints(0, furthest+1), ints(math.MaxInt, 0), ints(1<<32, 1<<32), ints(furthest, 1<<24), ints(3, 6148914691236517206), make([]int, 5000)}
}

// bad are arrays that may not be: shapes, numbers of elements, and elements.
func bad() []api.Val {
	l := []api.Val{{}, of(ints()), of(nil, "1", "2"), of(ints(0), "1"), of(ints(1)), of(ints(1), "1", "2"), of(ints(2), "1"), of(ints(3), "1", "2"), of(ints(3), "1", "2", "3", "4"), of(ints(2, 3)), of(ints(2, 3), "1", "2", "3", "4", "5"), of(ints(2, 3), "1", "2", "3", "4", "5", "6", "7"), of(ints(3, 0), "1"), of(ints(0, 3), "1", "2", "3"), of(ints(1, 1, 1)), of(ints(1, 1, 1), "1", "2"), of(ints(1, 0, 1), "1")}
	for _, s := range noNumbers() {
		l = append(l, only(s), of(ints(1), s), of(ints(3), s, "1", "2"), of(ints(3), "1", s, "2"), of(ints(3), "1", "2", s), of(ints(2, 3), "1", "2", "3", s, "4", "5"), of(ints(1, 1, 3), "1", "2", s))
	}
	for _, s := range badShapes() {
		l = append(l, of(s), of(s, "1"), of(s, "1", "2"), of(s, "1", "2", "3"))
	}
	ones := slices.Repeat(texts("1"), 4352)
	return append(l, of(ints(4097), ones[:4097]...), of(ints(64, 65), ones[:64*65]...), of(ints(16, 16, 17), ones...), of(ints(4096), ones[:4095]...), of(ints(4096), ones[:4097]...))
}

// good are arrays that may be: of each shape, counted, of alike elements, and of any.
func good() []api.Val {
	r := random(15)
	var l []api.Val
	for _, s := range shapes() {
		l = append(l, counted(s, 0), filled(s, "-3"), r.array(s))
	}
	for _, n := range append(far(), "0", "1", "-1") {
		l = append(l, only(n), of(ints(1), n), of(ints(1, 1, 1), n))
	}
	return l
}

// vectors are some of each kind: of no element, of one, of many, that rise, that fall, of alike elements, of numbers on both sides of 0, small and long.
func vectors() []api.Val {
	r := random(5)
	l := []api.Val{row(""), row("7"), row("-1"), row(nines(100)), row("0 1 2 3 4"), row("4 3 2 1 0"), row("5 5 5 5"), row("30 10 20"), row("2 1 2 1 3 1"), row("1 2 1 2 0 2"), row("0 -1 1 -10 10 -9 9"), row("-1 -2 -1 -2 -3 -2"), row("0 0 1 0 1 1 0"), row("3 0 2 1"), longOnes(), counted(ints(4096), -2048), filled(ints(4096), "1"), filled(ints(4096), "0")}
	for _, n := range ints(2, 3, 4, 5, 7, 8, 9, 16, 33, 100) {
		l = append(l, r.array(ints(n)), r.upTo(n, 3), r.upTo(n, 2*n), r.shuffled(counted(ints(n), -n/2)))
	}
	return append(l, r.upTo(4096, 2), r.upTo(4096, 64), r.shuffled(counted(ints(4096), 0)))
}

// longOnes are numbers of up to a hundred figures, shuffled, some of them twice: those that differ only in the last figure, in how many figures they have, or in the sign.
func longOnes() api.Val {
	l := texts("0", "0")
	for n := range 100 {
		l = append(l, nines(n+1), "-"+nines(n+1), power(n), "-"+power(n))
	}
	for i := range 10 {
		last := strconv.Itoa(i)
		l = append(l, nines(99)+last, "-"+nines(99)+last, power(98)+last, "-"+power(98)+last, nines(17)+last, nines(18)+last, nines(19)+last, "-922337203685477580"+last, "922337203685477580"+last)
	}
	r := random(9)
	return r.shuffled(of(ints(len(l)), l...))
}

// random is a row of numbers that is the same each time.
type random uint64

func (r *random) below(n int) int {
	*r = *r*6364136223846793005 + 1442695040888963407
	return int(uint64(*r)>>33) % n
}

// array is one of a shape, with any elements, small ones for the most part.
func (r *random) array(s []int) api.Val {
	all := far()
	v := api.Val{Shape: s}
	for range product(s) {
		n := strconv.Itoa(r.below(41) - 20)
		if r.below(8) == 0 {
			n = all[r.below(len(all))]
		}
		v.Elems = append(v.Elems, n)
	}
	return v
}

// upTo is a vector of so many elements, from 0 to below a number.
func (r *random) upTo(many, below int) api.Val {
	v := of(ints(many))
	for range many {
		v.Elems = append(v.Elems, strconv.Itoa(r.below(below)))
	}
	return v
}

// shuffled is a vector whose elements stand in any turn.
func (r *random) shuffled(v api.Val) api.Val {
	v = of(v.Shape, slices.Clone(v.Elems)...)
	for i := range v.Elems {
		j := r.below(i + 1)
		v.Elems[i], v.Elems[j] = v.Elems[j], v.Elems[i]
	}
	return v
}

// whole is an element as a whole number of the library.
func whole(s string) *big.Int {
	x, ok := new(big.Int).SetString(s, 10)
	if !ok {
		panic(s)
	}
	return x
}

// told is an element's number, and whether it isn't too far from 0.
func told(s string) (int, bool) {
	n, err := strconv.Atoi(s)
	return n, err == nil && n >= -furthest && n <= furthest
}

// toldAll are all elements' numbers.
func toldAll(v api.Val) ([]int, bool) {
	var l []int
	for _, s := range v.Elems {
		n, ok := told(s)
		if !ok {
			return nil, false
		}
		l = append(l, n)
	}
	return l, true
}

// shapeError is what a list of axes has that is no shape.
func shapeError(s []int) api.Errno {
	switch {
	case len(s) > 3:
		return api.ErrRank
	case len(s) > 0 && slices.Min(s) < 0:
		return api.ErrDom
	case len(s) > 0 && slices.Max(s) > furthest:
		return api.ErrBig
	case slices.Contains(s, 0):
		return api.OK
	}
	n := 1.0 // near enough, where it is much too large
	for _, axis := range s {
		n *= float64(axis)
	}
	if n > 4096 {
		return api.ErrBig
	}
	return api.OK
}

// at is the element that stands at some places.
func at(v api.Val, places []int) string {
	off := 0
	for i, p := range places {
		off = off*v.Shape[i] + p
	}
	return v.Elems[off]
}

// laid is the array of a shape of which each place's element is told; the last place is the fastest.
func laid(s []int, elem func(places []int) string) api.Val {
	v := of(s)
	places := make([]int, len(s))
	for range product(s) {
		v.Elems = append(v.Elems, elem(slices.Clone(places)))
		for i := len(s) - 1; i >= 0; i-- {
			places[i]++
			if places[i] < s[i] {
				break
			}
			places[i] = 0
		}
	}
	return v
}

// said says the chapter's words of arrays that may be, once more, each call by its name.
func said(call string, l ...api.Val) (api.Val, api.Errno) {
	switch call {
	case "Index":
		return saidOfIndex(l[0], l[1])
	case "Amend":
		return saidOfAmend(l[0], l[1], l[2])
	}
	v := l[0]
	if len(v.Shape) != 1 {
		return zero, api.ErrRank
	}
	switch call {
	case "Up":
		return saidOfOrder(v, 1), api.OK
	case "Down":
		return saidOfOrder(v, -1), api.OK
	case "Where":
		return saidOfWhere(v)
	case "Unique":
		var elems []string
		for i, s := range v.Elems {
			if !slices.Contains(v.Elems[:i], s) {
				elems = append(elems, s)
			}
		}
		return of(ints(len(elems)), elems...), api.OK
	case "Find":
		return laid(l[1].Shape, func(places []int) string {
			place := slices.Index(v.Elems, at(l[1], places))
			if place < 0 {
				place = len(v.Elems)
			}
			return strconv.Itoa(place)
		}), api.OK
	}
	panic(call)
}

// saidOfOrder are places, sorted so that alike ones stay in turn.
func saidOfOrder(v api.Val, side int) api.Val {
	var all []*big.Int
	var places []int
	for i, s := range v.Elems {
		all, places = append(all, whole(s)), append(places, i)
	}
	slices.SortStableFunc(places, func(a, b int) int { return side * all[a].Cmp(all[b]) })
	return numbers(places...)
}

func saidOfWhere(v api.Val) (api.Val, api.Errno) {
	l, ok := toldAll(v)
	if !ok || len(l) > 0 && slices.Min(l) < 0 {
		return zero, api.ErrDom
	}
	var places []int
	for i, n := range l {
		if n > 4096 {
			return zero, api.ErrBig
		}
		for range n {
			places = append(places, i)
		}
	}
	if len(places) > 4096 {
		return zero, api.ErrBig
	}
	return numbers(places...), api.OK
}

func saidOfIndex(v, w api.Val) (api.Val, api.Errno) {
	if len(v.Shape) == 0 {
		return zero, api.ErrRank
	}
	l, ok := toldAll(w)
	if !ok {
		return zero, api.ErrDom
	}
	if slices.ContainsFunc(l, func(n int) bool { return n < 0 || n >= v.Shape[0] }) {
		return zero, api.ErrIndex
	}
	s := slices.Concat(w.Shape, v.Shape[1:])
	if err := shapeError(s); err != api.OK {
		return zero, err
	}
	return laid(s, func(places []int) string {
		item, _ := told(at(w, places[:len(w.Shape)]))
		return at(v, slices.Concat(ints(item), places[len(w.Shape):]))
	}), api.OK
}

func saidOfAmend(v, places, w api.Val) (api.Val, api.Errno) {
	if len(v.Shape) != 1 || len(places.Shape) > 1 {
		return zero, api.ErrRank
	}
	l, ok := toldAll(places)
	if !ok {
		return zero, api.ErrDom
	}
	if slices.ContainsFunc(l, func(n int) bool { return n < 0 || n >= v.Shape[0] }) {
		return zero, api.ErrIndex
	}
	if len(w.Shape) > 0 && !slices.Equal(w.Shape, places.Shape) {
		return zero, api.ErrShape
	}
	return laid(v.Shape, func(place []int) string {
		for k, n := range slices.Backward(l) { // the last one that is put there stays
			switch {
			case n == place[0] && len(w.Shape) == 0:
				return w.Elems[0]
			case n == place[0]:
				return w.Elems[k]
			}
		}
		return at(v, place)
	}), api.OK
}

// long tells the begin of a text that is too long to be told.
func long(s string) string {
	if len(s) > 200 {
		return strconv.Quote(s[:120]) + " and so on, " + strconv.Itoa(len(s)) + " bytes"
	}
	return strconv.Quote(s)
}

// short tells so of arrays.
func short(l ...api.Val) string {
	var all []string
	for _, v := range l {
		axes := ""
		for _, axis := range v.Shape[:min(len(v.Shape), 5)] {
			axes += strconv.Itoa(axis) + " "
		}
		all = append(all, "["+strconv.Itoa(len(v.Shape))+" axes: "+axes+"and "+strconv.Itoa(len(v.Elems))+" elements: "+long(strings.Join(v.Elems[:min(len(v.Elems), 20)], " "))+"]")
	}
	return strings.Join(all, ", ")
}
