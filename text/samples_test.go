package text_test

import (
	"math"
	"math/big"
	"regexp"
	"slices"
	"strconv"
	"strings"

	"reredos/api"
)

// ints is a list, written short.
func ints(l ...int) []int { return l }

// texts is a list, written short.
func texts(l ...string) []string { return l }

// of is an array, written short.
func of(s []int, elems ...string) api.Val { return api.Val{Shape: s, Elems: elems} }

// like tells whether two arrays are the same to this file's own eyes; nil and empty are (R2).
func like(a, b api.Val) bool {
	return slices.Equal(a.Shape, b.Shape) && slices.Equal(a.Elems, b.Elems)
}

// zero is what is told beside an error.
var zero api.Val

// nines are the most that so many figures tell.
func nines(n int) string { return strings.Repeat("9", n) }

// power is 10^n.
func power(n int) string { return "1" + strings.Repeat("0", n) }

// numbers are some of all kinds, up to 100 figures.
func numbers() []string {
	l := texts("0")
	for _, s := range texts("1", "2", "7", "9", "10", "12", "100", "127", "128", "4096", "1099511627776", "9223372036854775807", "9223372036854775808", "18446744073709551616", nines(99), power(98), power(99), nines(100)) {
		l = append(l, s, "-"+s)
	}
	return l
}

// noNumbers are texts that no element may be.
func noNumbers() []string {
	return texts("", "-", "_", "--1", "-0", "00", "01", "-01", "+1", " 1", "1 ", "1 2", "_1", "_0", "-_1", "1-", "1.0", "1e3", "0x1", "a", "1a", "1\x00", "\xff", "٣", "１", ",1", "!0", "#", nines(101), "-"+nines(101), power(100), "0"+nines(99))
}

// noParts are texts that no number is as a part.
func noParts() []string {
	return texts("", "-", "_", "__", "-1", "+1", "--1", "-_1", "_-1", "__1", "1_", "_0", "_00", "00", "01", "007", "_01", "-0", "+0", "1_1", "1-1", "1.0", "1e3", "0x1", "a", "x1", "1a", "!1", "1!", "\t1", "1\n", "1\x00", "\x00", "\xff", "٣", "１", "²", nines(101), "_"+nines(101), power(100), "_"+power(100), "0"+nines(99), "_0"+nines(99), nines(5000))
}

// part is a number as a part.
func part(n string) string { return strings.Replace(n, "-", "_", 1) }

// row are numbers in a row.
func row(l []string) string {
	var s []byte
	for i, n := range l {
		if i > 0 {
			s = append(s, ' ')
		}
		s = append(s, part(n)...)
	}
	return string(s)
}

// said says the chapter's words of an array that may be, once more.
func said(v api.Val) string {
	elems := row(v.Elems)
	if len(v.Shape) == 0 {
		return elems
	}
	if len(v.Elems) == 0 {
		elems = "!0"
	}
	if len(v.Elems) == 1 {
		elems = "," + elems
	}
	if len(v.Shape) == 1 {
		return elems
	}
	var axes []string
	for _, axis := range v.Shape {
		axes = append(axes, strconv.Itoa(axis))
	}
	return row(axes) + "#" + elems
}

// form are the texts of arrays, as far as a pattern tells them: one of no axis; axes, or none; no element, one, or more.
var form = func() *regexp.Regexp {
	const n = `(?:0|_?[1-9][0-9]{0,99})`
	return regexp.MustCompile(`^(?:(` + n + `)|(?:(` + n + ` ` + n + `(?: ` + n + `)?)#)?(?:!0|,(` + n + `)|(` + n + `(?: ` + n + `)+)))$`)
}()

// parts are the numbers of a row.
func parts(s string) []string { return strings.Fields(strings.ReplaceAll(s, "_", "-")) }

// meant is the array of which a text is told, by patterns and whole numbers.
func meant(s string) (api.Val, bool) {
	m := form.FindStringSubmatch(s)
	if m == nil {
		return zero, false
	}
	if m[1] != "" {
		return of(nil, parts(m[1])...), true
	}
	elems := parts(m[3] + m[4])
	axes := parts(m[2])
	if len(axes) == 0 {
		axes = texts(strconv.Itoa(len(elems)))
	}
	var shape []int
	size := big.NewInt(1)
	for _, axis := range axes {
		x, ok := new(big.Int).SetString(axis, 10)
		if !ok || x.Sign() < 0 || x.Cmp(big.NewInt(1<<40)) > 0 {
			return zero, false
		}
		shape = append(shape, int(x.Int64()))
		size.Mul(size, x)
	}
	if size.Cmp(big.NewInt(int64(len(elems)))) != 0 || len(elems) > 4096 {
		return zero, false
	}
	return of(shape, elems...), true
}

// product is how many elements a shape has that may be.
func product(s []int) int {
	n := 1
	for _, axis := range s {
		n *= axis
	}
	return n
}

// counted is the array of a shape whose elements are where they stand.
func counted(s []int) api.Val {
	v := api.Val{Shape: s}
	for i := range product(s) {
		v.Elems = append(v.Elems, strconv.Itoa(i))
	}
	return v
}

// shapes are some that may be, of each number of axes, with an axis of 0 and of 1 in each place.
func shapes() [][]int {
	l := [][]int{nil, ints(), ints(7), ints(100), ints(101), ints(4095), ints(4096), ints(64, 64), ints(1, 4096), ints(4096, 1), ints(2, 2048), ints(16, 16, 16), ints(1, 1, 4096), ints(1, 4096, 1), ints(4096, 1, 1), ints(0, 4097), ints(4097, 0), ints(0, 4097, 4097), ints(1<<40, 0), ints(0, 1<<40), ints(1<<40, 0, 1<<40), ints(0, 1<<40, 1<<40), ints(1<<40, 1<<40, 0)}
	for a := range 4 {
		l = append(l, ints(a))
		for b := range 4 {
			l = append(l, ints(a, b))
			for c := range 4 {
				l = append(l, ints(a, b, c))
			}
		}
	}
	return l
}

// badShapes are some that may not be; the axes of some are multiplied to 0, 1 or 2, or round to these in 64 bits.
func badShapes() [][]int {
	return [][]int{ints(1, 1, 1, 1), ints(0, 0, 0, 0), ints(1, 1, 2, 1), ints(2, 1, 1, 1, 1), ints(-1), ints(math.MinInt), ints(-1, -1), ints(-1, -2), ints(2, -1), ints(-1, 2), ints(0, -1), ints(-1, 0), ints(1, 1, -1), ints(1, -1, -1), ints(-1, 0, 5), ints(4097), ints(64, 65), ints(16, 16, 17), ints(1<<40 + 1), ints(1<<40+1, 0), ints(0, 1<<40+1), ints(math.MaxInt, 0), ints(1<<32, 1<<32), ints(1<<40, 1<<24), ints(1<<33, 1<<31, 1), ints(3, 6148914691236517206), ints(11806113, 409891, 7623851), make([]int, 5000)}
}

// random is a row of numbers that is the same each time.
type random uint64

func (r *random) below(n int) int {
	*r = *r*6364136223846793005 + 1442695040888963407
	return int(uint64(*r)>>33) % n
}

// good are arrays that may be: of each shape, with its places as elements, and with any; each number in each place of few.
func good() []api.Val {
	r := random(11)
	all := numbers()
	var l []api.Val
	for _, s := range shapes() {
		any := of(s)
		for range product(s) {
			any.Elems = append(any.Elems, all[r.below(len(all))])
		}
		l = append(l, counted(s), any)
	}
	for _, n := range all {
		l = append(l, of(nil, n), of(ints(1), n), of(ints(1, 1), n), of(ints(1, 1, 1), n), of(ints(2), n, n), of(ints(3), n, "5", "6"), of(ints(3), "5", n, "6"), of(ints(3), "5", "6", n), of(ints(2, 1), "5", n), of(ints(1, 2), n, "5"), of(ints(2, 1, 2), "5", n, "6", "7"))
	}
	return append(l, of(ints(4096), slices.Repeat(texts("-"+nines(100)), 4096)...), of(ints(16, 16, 16), slices.Repeat(texts("-"+power(99)), 4096)...))
}

// bad are arrays that may not be: shapes, numbers of elements, and elements.
func bad() []api.Val {
	l := []api.Val{{}, of(nil), of(ints()), of(nil, "1", "2"), of(ints(0), "1"), of(ints(1)), of(ints(1), "1", "2"), of(ints(2), "1"), of(ints(3), "1", "2"), of(ints(3), "1", "2", "3", "4"), of(ints(2, 3)), of(ints(2, 3), "1", "2", "3", "4", "5"), of(ints(2, 3), "1", "2", "3", "4", "5", "6", "7"), of(ints(3, 0), "1"), of(ints(0, 3), "1", "2", "3"), of(ints(1, 1, 1)), of(ints(1, 1, 1), "1", "2"), of(ints(1, 0, 1), "1")}
	for _, s := range noNumbers() {
		l = append(l, of(nil, s), of(ints(1), s), of(ints(2), s, "1"), of(ints(2), "1", s), of(ints(1, 1), s), of(ints(2, 2), "1", "2", s, "3"), of(ints(1, 1, 3), s, "1", "2"))
	}
	for _, s := range badShapes() {
		l = append(l, of(s), of(s, "1"), of(s, "1", "2"), of(s, "1", "2", "3"))
	}
	ones := slices.Repeat(texts("1"), 4352)
	return append(l, of(ints(4097), ones[:4097]...), of(ints(64, 65), ones[:64*65]...), of(ints(16, 16, 17), ones...), of(ints(4096), ones[:4095]...), of(ints(4096), ones[:4097]...))
}

// some are texts of arrays, short ones of each form, beside which faults are looked for.
func some() []string {
	return texts("0", "7", "_5", "120", "!0", ",0", ",_3", ",45", "1 2", "0 _1 10", "3 3 3 3", "1 1#,0", "1 1#,_8", "2 1#1 2", "1 2#_1 20", "2 3#1 2 3 4 5 6", "0 0#!0", "3 0#!0", "0 12#!0", "1 1 1#,9", "1 2 1#5 _6", "1 0 2#!0", "10 0 10#!0", "1 10 1#0 1 2 3 4 5 6 7 8 9")
}

// long tells the begin of a text that is too long to be told.
func long(s string) string {
	if len(s) > 300 {
		return strconv.Quote(s[:200]) + " and so on, " + strconv.Itoa(len(s)) + " bytes"
	}
	return strconv.Quote(s)
}

// short tells so of an array.
func short(v api.Val) string {
	axes := ""
	for _, axis := range v.Shape[:min(len(v.Shape), 5)] {
		axes += strconv.Itoa(axis) + " "
	}
	elems := row(v.Elems[:min(len(v.Elems), 20)])
	return strconv.Itoa(len(v.Shape)) + " axes: " + axes + "and " + strconv.Itoa(len(v.Elems)) + " elements: " + long(elems)
}
