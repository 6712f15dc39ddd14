package adverb_test

import (
	"math"
	"slices"
	"strconv"
	"strings"

	"reredos/adverb"
	"reredos/api"
	"reredos/prim"
)

// ints is a list, written short.
func ints(l ...int) []int { return l }

// texts is a list, written short.
func texts(l ...string) []string { return l }

// of is an array, written short.
func of(s []int, elems ...string) api.Val { return api.Val{Shape: s, Elems: elems} }

// row is an array of one axis, its elements in a text.
func row(elems string) api.Val {
	l := strings.Fields(elems)
	return of(ints(len(l)), l...)
}

// grid is an array of a shape, its elements in a text.
func grid(s []int, elems string) api.Val { return of(s, strings.Fields(elems)...) }

// only is an array of no axis.
func only(s string) api.Val { return of(nil, s) }

// zero is what is told beside an error.
var zero api.Val

// furthest is how long an axis may be.
const furthest = 1 << 40

// The signs of one array and of two; those that spread come first.
const (
	spreadOnes = "-~*"
	ones       = spreadOnes + "!#=,|+<>&?"
	spreadTwos = "+-*%!&|<>=~"
	twos       = spreadTwos + "#^$,?@"
)

// signs are a text's bytes, each one as a text.
func signs(s string) []string { return strings.Split(s, "") }

// like tells whether two arrays are the same to this file's own eyes; nil and empty are (R2).
func like(a, b api.Val) bool {
	return slices.Equal(a.Shape, b.Shape) && slices.Equal(a.Elems, b.Elems)
}

// nines are the most that so many figures tell.
func nines(n int) string { return strings.Repeat("9", n) }

// product is how many elements a shape has that may be.
func product(s []int) int {
	n := 1
	for _, axis := range s {
		n *= axis
	}
	return n
}

// counted is the array of a shape whose elements are so much and where they stand.
func counted(s []int, from int) api.Val {
	v := api.Val{Shape: s}
	for i := range product(s) {
		v.Elems = append(v.Elems, strconv.Itoa(from+i))
	}
	return v
}

// filled is the array of a shape, all of whose elements are the same.
func filled(s []int, elem string) api.Val {
	return of(s, slices.Repeat(texts(elem), product(s))...)
}

// small are shapes of each number of axes, with an axis of 0, of 1 and of more in each place.
func small() [][]int {
	l := [][]int{nil, ints(4), ints(5), ints(6), ints(1, 6), ints(6, 1)}
	for a := range 4 {
		l = append(l, ints(a))
		for b := range 4 {
			l = append(l, ints(a, b))
			for c := range 3 {
				l = append(l, ints(a, b, c))
			}
		}
	}
	return l
}

// full are the shapes of as many elements as there may be.
func full() [][]int {
	return [][]int{ints(4096), ints(64, 64), ints(1, 4096), ints(4096, 1), ints(2, 2048), ints(16, 16, 16), ints(1, 1, 4096), ints(1, 4096, 1), ints(4096, 1, 1), ints(2, 4, 512)}
}

// hollow are shapes of few items, without an element, whose other axes are long, up to the longest that may be.
func hollow() [][]int {
	return [][]int{ints(0, 4097), ints(0, furthest), ints(0, furthest, furthest), ints(0, 0, furthest), ints(0, furthest, 0), ints(1, 0, furthest), ints(2, 0, furthest-1), ints(3, 0, furthest), ints(4, 0, 4097)}
}

// long are such shapes, each of whose items has very many items of its own.
func long() [][]int {
	return [][]int{ints(1, furthest, 0), ints(2, furthest-1, 0), ints(3, furthest, 0), ints(4, 4097, 0)}
}

// endless are shapes without an element, but of so many items that none goes through all of them.
func endless() [][]int {
	return [][]int{ints(furthest, 0), ints(furthest-1, 0), ints(furthest, 0, furthest), ints(furthest, furthest, 0), ints(furthest, 0, 0), ints(furthest, 3, 0)}
}

// good are arrays that may be, of few items.
func good() []api.Val {
	r := random(17)
	var l []api.Val
	for _, s := range slices.Concat(small(), hollow()) {
		l = append(l, counted(s, 1), filled(s, "0"), filled(s, "1"), r.array(s), r.upTo(s, 3))
	}
	for _, n := range texts("2", "-1", nines(100), "-"+nines(100), "9223372036854775808") {
		l = append(l, only(n), of(ints(1), n), of(ints(2), n, "1"), of(ints(3), "1", "-1", n), of(ints(2, 1), n, n), of(ints(1, 1, 1), n))
	}
	return l
}

// badShapes are some that may not be; the axes of some are multiplied to 0, 1 or 2, or round to these in 64 bits.
func badShapes() [][]int {
	return [][]int{ints(1, 1, 1, 1), ints(0, 0, 0, 0), ints(1, 1, 2, 1), ints(2, 1, 1, 1, 1), ints(-1), ints(math.MinInt), ints(-1, -1), ints(-1, -2), ints(2, -1), ints(-1, 2), ints(0, -1), ints(-1, 0), ints(1, 1, -1), ints(1, -1, -1), ints(4097), ints(64, 65), ints(16, 16, 17), ints(furthest + 1), ints(furthest+1, 0), ints(0, furthest+1), ints(math.MaxInt, 0), ints(1<<32, 1<<32), ints(furthest, 1<<24), ints(3, 6148914691236517206), make([]int, 5000)}
}

// noNumbers are texts that no element may be.
func noNumbers() []string {
	return texts("", "-", "_", "--1", "-0", "00", "01", "-01", "+1", " 1", "1 ", "1 2", "_1", "1.0", "1e3", "0x1", "a", "1a", "1\x00", "\xff", "٣", nines(101), "-"+nines(101), "0"+nines(99))
}

// bad are arrays that may not be: shapes, numbers of elements, and elements.
func bad() []api.Val {
	l := []api.Val{{}, of(ints()), of(nil, "1", "2"), of(ints(0), "1"), of(ints(1)), of(ints(1), "1", "2"), of(ints(2), "1"), of(ints(3), "1", "2"), of(ints(3), "1", "2", "3", "4"), of(ints(2, 3)), of(ints(2, 3), "1", "2", "3", "4", "5"), of(ints(2, 3), "1", "2", "3", "4", "5", "6", "7"), of(ints(3, 0), "1"), of(ints(0, 3), "1", "2", "3"), of(ints(1, 1, 1)), of(ints(1, 1, 1), "1", "2"), of(ints(1, 0, 1), "1")}
	for _, s := range noNumbers() {
		l = append(l, only(s), of(ints(1), s), of(ints(3), s, "1", "2"), of(ints(3), "1", s, "2"), of(ints(3), "1", "2", s), of(ints(2, 3), "1", "2", "3", s, "4", "5"), of(ints(1, 1, 3), "1", "2", s))
	}
	for _, s := range badShapes() {
		l = append(l, of(s), of(s, "1"), of(s, "1", "2"), of(s, "1", "2", "3"))
	}
	many := slices.Repeat(texts("1"), 4352)
	return append(l, of(ints(4097), many[:4097]...), of(ints(64, 65), many[:64*65]...), of(ints(16, 16, 17), many...), of(ints(4096), many[:4095]...), of(ints(4096), many[:4097]...))
}

// veryMany tells whether an array would have very many items.
func veryMany(v api.Val) bool {
	return len(v.Shape) > 0 && v.Shape[0] > 5000
}

// random is a row of numbers that is the same each time.
type random uint64

func (r *random) below(n int) int {
	*r = *r*6364136223846793005 + 1442695040888963407
	return int(uint64(*r)>>33) % n
}

// array is one of a shape, with any elements, small ones for the most part.
func (r *random) array(s []int) api.Val {
	far := texts("1099511627777", "-9223372036854775808", "18446744073709551617", nines(50), "-"+nines(99), nines(100))
	v := api.Val{Shape: s}
	for range product(s) {
		n := strconv.Itoa(r.below(41) - 20)
		if r.below(12) == 0 {
			n = far[r.below(len(far))]
		}
		v.Elems = append(v.Elems, n)
	}
	return v
}

// upTo is one whose elements are from 0 to below a number.
func (r *random) upTo(s []int, below int) api.Val {
	v := api.Val{Shape: s}
	for range product(s) {
		v.Elems = append(v.Elems, strconv.Itoa(r.below(below)))
	}
	return v
}

// spy is a verb that notes what it is asked, in turn, and fails at one question, if it is to.
type spy struct {
	tells func(n int, in ...api.Val) api.Val // of the n-th question, from 1 on
	fails int                                // the question at which it fails
	err   api.Errno
	unit  api.Val
	has   bool // whether there is a unit
	asked []string
}

func (s *spy) answer(question string, in ...api.Val) (api.Val, api.Errno) {
	for _, v := range in {
		question += " " + written(v)
	}
	s.asked = append(s.asked, question)
	if len(s.asked) == s.fails {
		return row("7 7 7"), s.err // that is no answer, as there is an error
	}
	return s.tells(len(s.asked), in...), api.OK
}

func (s *spy) One(v api.Val) (api.Val, api.Errno)    { return s.answer("One", v) }
func (s *spy) Two(v, w api.Val) (api.Val, api.Errno) { return s.answer("Two", v, w) }

func (s *spy) Unit() (api.Val, bool) { return copied(s.unit), s.has }

// What spies tell: the question's number; what they are asked, the first and the last of it, and all of its elements; and the same each time.
func number(n int, _ ...api.Val) api.Val  { return only(strconv.Itoa(n)) }
func first(_ int, in ...api.Val) api.Val  { return copied(in[0]) }
func last(_ int, in ...api.Val) api.Val   { return copied(in[len(in)-1]) }
func growing(n int, _ ...api.Val) api.Val { return counted(ints(n), n) }
func elements(_ int, in ...api.Val) api.Val {
	v := of(ints(0))
	for _, x := range in {
		v.Elems = append(v.Elems, x.Elems...)
	}
	v.Shape[0] = len(v.Elems)
	return v
}

func always(v api.Val) func(int, ...api.Val) api.Val {
	return func(int, ...api.Val) api.Val { return copied(v) }
}

// but is the same each time, but for the n-th question.
func but(n int, other, v api.Val) func(int, ...api.Val) api.Val {
	return func(i int, _ ...api.Val) api.Val {
		if i == n {
			return copied(other)
		}
		return copied(v)
	}
}

// spies are verbs that tell in each of these ways, or fail at each of the first questions.
func spies() []func() *spy {
	var l []func() *spy
	for _, tells := range []func(int, ...api.Val) api.Val{number, first, last, growing, elements, always(row("")), always(row("4 -4")), always(grid(ints(1, 2), "1 2")), always(of(ints(2, 0))), always(filled(ints(1, 1, 1), "1")), always(filled(ints(1200), "5")), but(2, row("3"), only("3")), but(3, only("3"), row("3"))} {
		l = append(l, func() *spy { return &spy{tells: tells, unit: row("8 9"), has: true} })
	}
	for n := range 5 {
		l = append(l, func() *spy { return &spy{tells: number, fails: n + 1, err: api.ErrName} }, func() *spy { return &spy{tells: growing, fails: n + 1, err: api.ErrLimit} })
	}
	return l
}

// copied is an array of its own, with room behind its lists.
func copied(v api.Val) api.Val {
	return of(append(make([]int, 0, len(v.Shape)+4), v.Shape...), append(make([]string, 0, len(v.Elems)+4), v.Elems...)...)
}

// call is one of the six, by its name, and the chapter's words of it, said once more. Those of one array leave the other one.
type call struct {
	name     string
	of       int // how many arrays it takes
	do, said func(f prim.Verb, v, w api.Val) (api.Val, api.Errno)
}

// alone is a call that takes one array.
func alone(tell func(f prim.Verb, v api.Val) (api.Val, api.Errno)) func(f prim.Verb, v, w api.Val) (api.Val, api.Errno) {
	return func(f prim.Verb, v, _ api.Val) (api.Val, api.Errno) { return tell(f, v) }
}

func calls() []call {
	return []call{
		{"Each", 1, alone(adverb.Each), alone(saidEach)},
		{"Reduce", 1, alone(adverb.Reduce), alone(saidReduce)},
		{"Scan", 1, alone(adverb.Scan), alone(saidScan)},
		{"Prior", 1, alone(adverb.Prior), alone(saidPrior)},
		{"Both", 2, adverb.Both, saidBoth},
		{"Outer", 2, adverb.Outer, saidOuter},
	}
}

// ofOne and ofTwo are those that take so many arrays.
func ofOne() []call { return calls()[:4] }
func ofTwo() []call { return calls()[4:] }

// named is the call of a name.
func named(name string) call {
	for _, c := range calls() {
		if c.name == name {
			return c
		}
	}
	panic(name)
}

// parts are the items of an array that has an axis.
func parts(v api.Val) []api.Val {
	var l []api.Val
	for i := range v.Shape[0] {
		each := product(v.Shape[1:])
		l = append(l, of(v.Shape[1:], v.Elems[i*each:(i+1)*each]...))
	}
	return l
}

// glued are items as one array: unlike ones first, then too many axes, then too many elements.
func glued(l []api.Val) (api.Val, api.Errno) {
	all := of(append(ints(len(l)), l[0].Shape...))
	for _, v := range l {
		if !slices.Equal(v.Shape, l[0].Shape) {
			return zero, api.ErrShape
		}
		all.Elems = append(all.Elems, v.Elems...)
	}
	switch {
	case len(all.Shape) > 3:
		return zero, api.ErrRank
	case len(all.Elems) > 4096:
		return zero, api.ErrBig
	}
	return all, api.OK
}

// gluedOr tells so many answers, glued, or the first error.
func gluedOr(many int, tell func(i int) (api.Val, api.Errno)) (api.Val, api.Errno) {
	var l []api.Val
	for i := range many {
		v, err := tell(i)
		if err != api.OK {
			return zero, err
		}
		l = append(l, v)
	}
	return glued(l)
}

func saidEach(f prim.Verb, v api.Val) (api.Val, api.Errno) {
	if len(v.Shape) > 0 && v.Shape[0] == 0 {
		return v, api.OK
	}
	if len(v.Shape) > 0 {
		items := parts(v)
		return gluedOr(len(items), func(i int) (api.Val, api.Errno) { return f.One(items[i]) })
	}
	told, err := f.One(v)
	if err != api.OK {
		return zero, err
	}
	return told, api.OK
}

// steps are all that is come by, or the first error.
func steps(f prim.Verb, items []api.Val) ([]api.Val, api.Errno) {
	l := items[:1:1]
	for _, item := range items[1:] {
		v, err := f.Two(l[len(l)-1], item)
		if err != api.OK {
			return nil, err
		}
		l = append(l, v)
	}
	return l, api.OK
}

func saidReduce(f prim.Verb, v api.Val) (api.Val, api.Errno) {
	if len(v.Shape) == 0 {
		return v, api.OK
	}
	if v.Shape[0] == 0 {
		if unit, ok := f.Unit(); ok && len(v.Shape) == 1 {
			return unit, api.OK
		}
		return zero, api.ErrDom
	}
	l, err := steps(f, parts(v))
	if err != api.OK {
		return zero, err
	}
	return l[len(l)-1], api.OK
}

func saidScan(f prim.Verb, v api.Val) (api.Val, api.Errno) {
	if len(v.Shape) == 0 || v.Shape[0] == 0 {
		return v, api.OK
	}
	l, err := steps(f, parts(v))
	if err != api.OK {
		return zero, err
	}
	return glued(l)
}

func saidPrior(f prim.Verb, v api.Val) (api.Val, api.Errno) {
	if len(v.Shape) == 0 || v.Shape[0] == 0 {
		return v, api.OK
	}
	items := parts(v)
	return gluedOr(len(items), func(i int) (api.Val, api.Errno) {
		if i == 0 {
			return items[0], api.OK
		}
		return f.Two(items[i], items[i-1])
	})
}

func saidBoth(f prim.Verb, v, w api.Val) (api.Val, api.Errno) {
	if len(v.Shape)+len(w.Shape) == 0 {
		told, err := f.Two(v, w)
		if err != api.OK {
			return zero, err
		}
		return told, api.OK
	}
	long := v
	if len(v.Shape) == 0 {
		long = w
	}
	many := long.Shape[0]
	if len(v.Shape) > 0 && len(w.Shape) > 0 && w.Shape[0] != many {
		return zero, api.ErrShape
	}
	if many == 0 {
		return long, api.OK
	}
	left, right := slices.Repeat([]api.Val{v}, many), slices.Repeat([]api.Val{w}, many)
	if len(v.Shape) > 0 {
		left = parts(v)
	}
	if len(w.Shape) > 0 {
		right = parts(w)
	}
	return gluedOr(many, func(i int) (api.Val, api.Errno) { return f.Two(left[i], right[i]) })
}

func saidOuter(f prim.Verb, v, w api.Val) (api.Val, api.Errno) {
	if len(v.Shape) == 0 {
		return saidBoth(f, v, w)
	}
	if v.Shape[0] == 0 {
		return v, api.OK
	}
	left := parts(v)
	return gluedOr(len(left), func(i int) (api.Val, api.Errno) {
		switch {
		case len(w.Shape) == 0:
			return f.Two(left[i], w)
		case w.Shape[0] == 0:
			return w, api.OK
		}
		right := parts(w)
		return gluedOr(len(right), func(j int) (api.Val, api.Errno) { return f.Two(left[i], right[j]) })
	})
}

// written is an array as a text: its axes, and its elements.
func written(v api.Val) string {
	axes := ""
	for _, axis := range v.Shape {
		axes += strconv.Itoa(axis) + "#"
	}
	return axes + strings.Join(v.Elems, ",")
}

// short is the begin of that, if it is long.
func short(l ...api.Val) string {
	var all []string
	for _, v := range l {
		s := written(of(v.Shape[:min(len(v.Shape), 5)], v.Elems[:min(len(v.Elems), 24)]...))
		if len(s) > 300 {
			s = s[:300] + ".."
		}
		all = append(all, strconv.Quote(s)+" ("+strconv.Itoa(len(v.Shape))+" axes, "+strconv.Itoa(len(v.Elems))+" elements)")
	}
	return strings.Join(all, " and ")
}
