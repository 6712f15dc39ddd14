package val_test

import (
	"math"
	"math/big"
	"slices"
	"strconv"
	"strings"
	"sync"
	"testing"

	"reredos/api"
	"reredos/val"
)

// The calls, with the exact signatures that the chapter lists.
var (
	_ func(v api.Val) bool                   = val.May
	_ func(a, b api.Val) bool                = val.Same
	_ func(s string) api.Val                 = val.Scalar
	_ func(l []string) api.Val               = val.Vector
	_ func(l []int) api.Val                  = val.Ints
	_ func(v api.Val) (int, api.Errno)       = val.Int
	_ func(v api.Val) ([]int, api.Errno)     = val.All
	_ func(v api.Val, i int) (api.Val, bool) = val.Item
	_ func(l []api.Val) (api.Val, api.Errno) = val.Join
	_ func(v api.Val) int                    = val.Width
	_ func(v api.Val) int                    = val.Many
)

// ints is a list, written short.
func ints(l ...int) []int { return l }

// texts is a list, written short.
func texts(l ...string) []string { return l }

// of is an array, written short.
func of(s []int, elems ...string) api.Val { return api.Val{Shape: s, Elems: elems} }

func nines(n int) string { return strings.Repeat("9", n) }

func power(n int) string { return "1" + strings.Repeat("0", n) }

// numbers are some of all kinds, up to 100 figures.
func numbers() []string {
	l := texts("0")
	for _, s := range texts("1", "7", "10", "127", "128", "129", "32767", "32768", "32769", "2147483647", "2147483648", "2147483649",
		"1099511627775", "1099511627776", "1099511627777", "9223372036854775807", "9223372036854775808", "9223372036854775809", "18446744073709551616", "18446744073709551617",
		nines(99), nines(100), power(99)) {
		l = append(l, s, "-"+s)
	}
	return l
}

// noNumbers are texts that no element may be.
func noNumbers() []string {
	return texts("", "-", "--1", "-0", "00", "01", "-01", "+1", " 1", "1 ", "1 2", "_1", "1.0", "1e3", "0x1", "a", "1a", "1\x00", "\xff", "٣", nines(101), "-"+nines(101), power(100), "0"+nines(99))
}

// product is how many elements a shape has that may be.
func product(s []int) int {
	n := 1
	for _, axis := range s {
		n *= axis
	}
	return n
}

// counted is the array of a shape whose elements are where they stand.
func counted(s []int) api.Val {
	v := api.Val{Shape: s}
	for i := range product(s) {
		v.Elems = append(v.Elems, strconv.Itoa(i))
	}
	return v
}

// shapes are some that may be, of each number of axes, with axes of 0 and of 1 among them.
func shapes() [][]int {
	l := [][]int{nil, ints(), ints(7), ints(4096), ints(64, 64), ints(1, 4096), ints(4096, 1), ints(2, 2048), ints(16, 16, 16), ints(1, 1, 4096), ints(4096, 1, 1), ints(0, 4097), ints(0, 4097, 4097), ints(0, 1<<40), ints(0, 0, 1<<40), ints(0, 1<<40, 1<<40)}
	for a := range 4 {
		l = append(l, ints(a))
		for b := range 4 {
			l = append(l, ints(a, b))
			for c := range 4 {
				l = append(l, ints(a, b, c))
			}
		}
	}
	return l
}

// badShapes are some that may not be.
func badShapes() [][]int {
	return [][]int{ints(1, 1, 1, 1), ints(0, 0, 0, 0), ints(2, 1, 1, 1, 1), ints(-1), ints(math.MinInt), ints(-1, -1), ints(-2, -3), ints(2, -1), ints(-1, 2), ints(0, -1), ints(1, 1, -1), ints(4097), ints(64, 65), ints(16, 16, 17), ints(1<<40 + 1), ints(1<<40+1, 0), ints(0, 1<<40+1), ints(math.MaxInt), ints(1<<32, 1<<32), make([]int, 5000)}
}

// bad are arrays that may not be: shapes, numbers of elements, and elements.
func bad() []api.Val {
	l := []api.Val{{}, of(nil), of(ints()), of(nil, "1", "2"), of(ints(0), "1"), of(ints(1)), of(ints(3), "1"), of(ints(2, 3), "1", "2", "3", "4", "5"), of(ints(2, 3), "1", "2", "3", "4", "5", "6", "7"), of(ints(3, 0), "1"), of(ints(2, 2), "1", "2", "x", "4")}
	for _, s := range noNumbers() {
		l = append(l, of(nil, s), of(ints(1), s), of(ints(3), "1", "2", s), of(ints(2, 2), s, "1", "2", "3"))
	}
	for _, s := range badShapes() {
		l = append(l, of(s), of(s, "1"), of(s, "1", "2"), of(s, "1", "2", "3", "4", "5", "6"))
	}
	return append(l, of(ints(4097), slices.Repeat(texts("1"), 4097)...), of(ints(64, 65), slices.Repeat(texts("1"), 64*65)...))
}

// good are arrays that may be.
func good() []api.Val {
	var l []api.Val
	for _, s := range shapes() {
		l = append(l, counted(s))
	}
	for _, s := range numbers() {
		l = append(l, of(nil, s), of(ints(1), s), of(ints(2, 1), "5", s), of(ints(1, 1, 2), s, s))
	}
	return l
}

// like tells whether two arrays are the same to this file's own eyes.
func like(a, b api.Val) bool {
	return slices.Equal(a.Shape, b.Shape) && slices.Equal(a.Elems, b.Elems)
}

func isZero(v api.Val) bool {
	return len(v.Shape) == 0 && len(v.Elems) == 0
}

func TestMay(t *testing.T) { // P4.1
	for _, v := range good() {
		if !val.May(v) {
			t.Errorf("May of %v, %d elements: false", v.Shape, len(v.Elems))
		}
	}
	if !val.May(of(ints(), "-5")) || !val.May(api.Val{Shape: ints(0), Elems: texts()}) || !val.May(of(ints(2, 0, 4))) {
		t.Error("May of nil and of empty lists")
	}
}

func TestMayOfOthers(t *testing.T) { // P4.1
	for _, v := range bad() {
		if val.May(v) {
			t.Errorf("May of %v, %.200q: true", v.Shape, v.Elems)
		}
	}
}

func TestMayCountsElements(t *testing.T) { // P4.1: one fewer, one more, and none
	for _, s := range shapes() {
		v := counted(s)
		more := of(s, append(slices.Clone(v.Elems), "1")...)
		if val.May(more) {
			t.Errorf("May of %v with %d elements: true", s, len(more.Elems))
		}
		if n := len(v.Elems); n > 0 && (val.May(of(s, v.Elems[:n-1]...)) || val.May(of(s, v.Elems[1:]...)) || val.May(of(s))) {
			t.Errorf("May of %v with less than %d elements: true", s, n)
		}
	}
}

func TestMayLooksAtEachElement(t *testing.T) { // P4.1
	for _, s := range [][]int{nil, ints(1), ints(7), ints(2, 3), ints(2, 3, 4)} {
		for i := range product(s) {
			v := counted(s)
			for _, n := range numbers() {
				if v.Elems[i] = n; !val.May(v) {
					t.Errorf("May of %v with %q at %d: false", s, n, i)
				}
			}
			for _, x := range noNumbers() {
				if v.Elems[i] = x; val.May(v) {
					t.Errorf("May of %v with %q at %d: true", s, x, i)
				}
			}
		}
	}
}

func TestSame(t *testing.T) { // P4.1, R2, R5
	for _, c := range []struct {
		a, b api.Val
		want bool
	}{
		{api.Val{}, api.Val{}, true}, {api.Val{}, api.Val{Shape: ints(), Elems: texts()}, true}, {api.Val{Shape: ints(0), Elems: texts()}, of(ints(0)), true},
		{of(nil, "1"), of(ints(), "1"), true}, {of(nil, "1"), of(nil, "2"), false}, {of(nil, "1"), of(ints(1), "1"), false}, {of(ints(1), "1"), of(ints(1, 1), "1"), false},
		{of(ints(2), "1", "2"), of(ints(2), "1", "2"), true}, {of(ints(2), "1", "2"), of(ints(2), "2", "1"), false}, {of(ints(2), "1", "2"), of(ints(2), "1", "3"), false}, {of(ints(2), "1", "2"), of(ints(2), "3", "2"), false},
		{of(ints(2), "1", "2"), of(ints(2), "1"), false}, {of(ints(2), "1"), of(ints(2), "1", "2"), false}, {of(ints(2)), of(ints(2)), true}, {of(ints(2)), of(ints(2), "0", "0"), false},
		{of(ints(2, 3), "1", "2", "3", "4", "5", "6"), of(ints(3, 2), "1", "2", "3", "4", "5", "6"), false}, {of(ints(0, 2)), of(ints(2, 0)), false}, {of(ints(0)), api.Val{}, false},
		{of(nil, "0"), of(nil, "-0"), false}, {of(nil, "1"), of(nil, "01"), false}, {of(nil, "x"), of(nil, "x"), true}, {of(nil, ""), api.Val{}, false}, {of(nil, nines(100)), of(nil, nines(101)), false}, // arrays that may not be, too
		{of(ints(-1), "x"), of(ints(-1), "x"), true}, {of(ints(-1)), of(ints(1)), false}, {of(ints(1, 1, 1, 1), "1"), of(ints(1, 1, 1, 1), "1"), true}, {of(ints(1, 1, 1, 1), "1"), of(ints(1, 1, 1), "1"), false},
	} {
		if val.Same(c.a, c.b) != c.want || val.Same(c.b, c.a) != c.want {
			t.Errorf("Same(%v, %v): not %v", c.a, c.b, c.want)
		}
	}
	all := append(good(), bad()...)
	for _, a := range all {
		for _, b := range all {
			if val.Same(a, b) != like(a, b) {
				t.Errorf("Same of %v and %v: %v", a.Shape, b.Shape, val.Same(a, b))
			}
		}
	}
}

func TestScalar(t *testing.T) { // P4.1
	for _, s := range append(numbers(), noNumbers()...) {
		if v := val.Scalar(s); len(v.Shape) != 0 || !slices.Equal(v.Elems, texts(s)) || val.May(v) != slices.Contains(numbers(), s) {
			t.Errorf("Scalar(%q): %v", s, v)
		}
	}
}

func TestVector(t *testing.T) { // P4.1, R2, R5
	for _, l := range [][]string{nil, texts(), texts("5"), texts("3", "-1", "2"), numbers(), noNumbers(), slices.Repeat(texts("8"), 4096), slices.Repeat(texts("8"), 4097)} {
		if v := val.Vector(l); !slices.Equal(v.Shape, ints(len(l))) || !slices.Equal(v.Elems, l) {
			t.Errorf("Vector of %d: %v, %d", len(l), v.Shape, len(v.Elems))
		}
	}
	if !val.May(val.Vector(nil)) || !val.May(val.Vector(numbers())) || val.May(val.Vector(noNumbers())) || val.May(val.Vector(slices.Repeat(texts("8"), 4097))) {
		t.Error("May of vectors")
	}
}

func TestInts(t *testing.T) { // P4.1, R2
	for _, c := range []struct {
		l    []int
		want []string
	}{
		{nil, nil}, {ints(), nil}, {ints(0), texts("0")}, {ints(3, -1, 0, 12), texts("3", "-1", "0", "12")},
		{ints(1<<40, -1<<40, 1<<40+1), texts("1099511627776", "-1099511627776", "1099511627777")}, {ints(math.MaxInt64, math.MinInt64), texts("9223372036854775807", "-9223372036854775808")},
	} {
		if v := val.Ints(c.l); !like(v, of(ints(len(c.l)), c.want...)) || !val.May(v) {
			t.Errorf("Ints(%v): %v", c.l, v)
		}
	}
	if v := val.Ints(make([]int, 4097)); len(v.Elems) != 4097 || v.Elems[4096] != "0" || !slices.Equal(v.Shape, ints(4097)) {
		t.Errorf("Ints of 4097: %v", v.Shape)
	}
}

// near is what the chapter's words make of an element.
func near(s string) (int, bool) {
	if !slices.Contains(numbers(), s) {
		return 0, false
	}
	x, ok := new(big.Int).SetString(s, 10)
	if !ok || x.CmpAbs(big.NewInt(1<<40)) > 0 {
		return 0, false
	}
	return int(x.Int64()), true
}

func TestInt(t *testing.T) { // P4.2
	for _, c := range []struct {
		v    api.Val
		want int
	}{
		{of(nil, "0"), 0}, {of(ints(), "-7"), -7}, {of(nil, "12"), 12}, {of(nil, "1099511627775"), 1<<40 - 1}, {of(nil, "1099511627776"), 1 << 40}, {of(nil, "-1099511627775"), 1 - 1<<40}, {of(nil, "-1099511627776"), -1 << 40},
	} {
		if x, err := val.Int(c.v); x != c.want || err != api.OK {
			t.Errorf("Int(%v): %d, %d", c.v, x, err)
		}
	}
	for _, s := range append(numbers(), noNumbers()...) {
		want, ok := near(s)
		if x, err := val.Int(val.Scalar(s)); x != want || (err == api.OK) != ok || !ok && err != api.ErrDom {
			t.Errorf("Int of %q: %d, %d", s, x, err)
		}
	}
}

func TestIntOfWhatIsNone(t *testing.T) { // P4.2, R1: ErrRank is named first
	for want, l := range map[api.Errno][]api.Val{
		api.ErrRank: {{}, of(ints()), of(nil, "1", "2"), of(nil, "x", "y"), of(nil, nines(100), "1"), of(ints(1), "5"), of(ints(1), "x"), of(ints(1), "1099511627777"), of(ints(1, 1), "5"), of(ints(1, 1, 1), "5"), of(ints(1, 1, 1, 1), "5"), of(ints(0)), of(ints(0), "5"), of(ints(-1), "5"), of(ints(4097), "5"), of(ints(3), "1", "2", "3"), of(make([]int, 5000), "5")},
		api.ErrDom:  {of(nil, "1099511627777"), of(nil, "-1099511627777"), of(nil, "9223372036854775807"), of(nil, "-9223372036854775808"), of(nil, "9223372036854775808"), of(nil, "18446744073709551617"), of(nil, nines(100)), of(nil, "-"+nines(100)), of(nil, "x"), of(nil, ""), of(nil, "-0"), of(nil, "05"), of(ints(), nines(101))},
	} {
		for _, v := range l {
			if x, err := val.Int(v); x != 0 || err != want {
				t.Errorf("Int(%v): %d, %d; not %d", v, x, err, want)
			}
		}
	}
}

func TestAll(t *testing.T) { // P4.2, R2, R5: an array that may not be has its elements, too
	for _, c := range []struct {
		v    api.Val
		want []int
	}{
		{api.Val{}, nil}, {api.Val{Shape: ints(0), Elems: texts()}, nil}, {of(ints(2, 0, 3)), nil}, {of(nil, "5"), ints(5)}, {of(ints(3), "3", "-1", "2"), ints(3, -1, 2)}, {of(ints(2, 2), "1", "2", "3", "4"), ints(1, 2, 3, 4)},
		{of(ints(4), "1099511627776", "-1099511627776", "1099511627775", "0"), ints(1<<40, -1<<40, 1<<40-1, 0)},
		{of(ints(9), "1", "2"), ints(1, 2)}, {of(ints(-1), "4"), ints(4)}, {of(ints(1, 1, 1, 1), "7"), ints(7)}, {of(ints(0), "7"), ints(7)}, {of(ints(4097)), nil},
	} {
		if l, err := val.All(c.v); !slices.Equal(l, c.want) || err != api.OK {
			t.Errorf("All(%v): %v, %d", c.v, l, err)
		}
	}
	if l, err := val.All(counted(ints(16, 16, 16))); len(l) != 4096 || l[4095] != 4095 || err != api.OK {
		t.Errorf("All of 4096: %d, %d", len(l), err)
	}
}

func TestAllWithOneThatIsNot(t *testing.T) { // P4.2, R1
	for _, s := range append(numbers(), noNumbers()...) {
		x, ok := near(s)
		for i := range 6 {
			v, want := counted(ints(2, 3)), ints(0, 1, 2, 3, 4, 5)
			v.Elems[i], want[i] = s, x
			l, err := val.All(v)
			if ok && (!slices.Equal(l, want) || err != api.OK) || !ok && (len(l) != 0 || err != api.ErrDom) {
				t.Errorf("All(%v): %v, %d", v, l, err)
			}
		}
	}
	for _, v := range []api.Val{of(ints(-1), "x"), of(ints(1, 1, 1, 1), nines(100)), of(nil, "1", "1099511627777"), of(ints(0), "")} {
		if l, err := val.All(v); len(l) != 0 || err != api.ErrDom {
			t.Errorf("All(%v): %v, %d", v, l, err)
		}
	}
}

func TestMany(t *testing.T) { // P4.2, R5: it is the shape's, also of an array that may not be
	for _, c := range []struct {
		v    api.Val
		want int
	}{
		{of(nil, "5"), 1}, {api.Val{}, 1}, {of(ints()), 1}, {of(nil, "1", "2"), 1}, {of(ints(0)), 0}, {of(ints(3), "1", "2", "3"), 3}, {of(ints(2, 3), "1", "2", "3", "4", "5", "6"), 2}, {of(ints(3, 2, 0)), 3}, {of(ints(0, 5)), 0}, {of(ints(4096)), 4096},
		{of(ints(7), "1"), 7}, {of(ints(1), "x"), 1}, {of(ints(-1)), -1}, {of(ints(2, -1)), 2}, {of(ints(5, 1, 1, 1)), 5}, {of(ints(math.MaxInt)), math.MaxInt}, {of(ints(math.MinInt, 3)), math.MinInt},
	} {
		if n := val.Many(c.v); n != c.want {
			t.Errorf("Many(%v): %d", c.v, n)
		}
	}
}

func TestItem(t *testing.T) { // P4.3
	square := of(ints(2, 3), "1", "2", "3", "4", "5", "6")
	for _, c := range []struct {
		v    api.Val
		i    int
		want api.Val
	}{
		{square, 0, of(ints(3), "1", "2", "3")}, {square, 1, of(ints(3), "4", "5", "6")},
		{of(nil, "5"), 0, of(nil, "5")}, {of(ints(), nines(100)), 0, of(nil, nines(100))}, {of(ints(1), "-9"), 0, of(nil, "-9")}, {of(ints(3), "7", "8", "9"), 0, of(nil, "7")}, {of(ints(3), "7", "8", "9"), 2, of(nil, "9")},
		{of(ints(3, 2), "1", "2", "3", "4", "5", "6"), 1, of(ints(2), "3", "4")}, {of(ints(2, 2, 2), "1", "2", "3", "4", "5", "6", "7", "8"), 1, of(ints(2, 2), "5", "6", "7", "8")}, {of(ints(1, 2), "1", "2"), 0, of(ints(2), "1", "2")},
		{of(ints(3, 0)), 2, of(ints(0))}, {of(ints(2, 0, 3)), 1, of(ints(0, 3))}, {of(ints(2, 3, 0)), 0, of(ints(3, 0))}, {of(ints(1<<40, 0)), 1<<40 - 1, of(ints(0))}, {of(ints(5, 1<<40, 0)), 4, of(ints(1<<40, 0))},
	} {
		if v, ok := val.Item(c.v, c.i); !like(v, c.want) || !ok {
			t.Errorf("Item(%v, %d): %v, %v", c.v, c.i, v, ok)
		}
	}
}

// noItem asks for an item that there isn't.
func noItem(t *testing.T, v api.Val, i int) {
	t.Helper()
	if x, ok := val.Item(v, i); !isZero(x) || ok {
		t.Errorf("Item(%v, %d): %v, %v", v, i, x, ok)
	}
}

func TestItemBeyond(t *testing.T) { // P4.3, R1
	for _, v := range good() {
		many := 1
		if len(v.Shape) > 0 {
			many = v.Shape[0]
		}
		for _, i := range ints(-1, many, many+1, 2*many+1, -many-1, math.MinInt, math.MaxInt) {
			noItem(t, v, i)
		}
		if x, ok := val.Item(v, many-1); ok != (many > 0) || !ok && !isZero(x) {
			t.Errorf("Item(%v, %d): %v, %v", v, many-1, x, ok)
		}
	}
}

func TestNoItemOfWhatMayNotBe(t *testing.T) { // P4.3, R1, R5
	for _, v := range bad() {
		for _, i := range ints(math.MinInt, -1, 0, 1, 2, 4096, math.MaxInt) {
			noItem(t, v, i)
		}
	}
	noItem(t, of(ints(2), "5", "x"), 0) // also where the item itself would be one
	noItem(t, of(ints(2), "5"), 0)
	noItem(t, of(ints(2, 1), "1", "2", "3"), 1)
}

func TestItemsInTurn(t *testing.T) { // P4.3: all items, one behind the other, are all elements in turn
	for _, v := range good() {
		many, rest := 1, []int(nil)
		if len(v.Shape) > 0 {
			many, rest = v.Shape[0], v.Shape[1:]
		}
		var elems []string
		for i := range many {
			x, ok := val.Item(v, i)
			if !ok || !slices.Equal(x.Shape, rest) || !val.May(x) {
				t.Fatalf("Item(%v, %d): %v, %v", v, i, x, ok)
			}
			elems = append(elems, x.Elems...)
		}
		if !slices.Equal(elems, v.Elems) {
			t.Errorf("items of %v: %v", v, elems)
		}
	}
}

func TestJoin(t *testing.T) { // P4.3, R2
	row, column, cube := of(ints(2), "1", "2"), of(ints(2, 1), "3", "4"), of(ints(1, 2, 1), "5", "6")
	for _, c := range []struct {
		l    []api.Val
		want api.Val
	}{
		{[]api.Val{of(nil, "5")}, of(ints(1), "5")}, {[]api.Val{of(nil, "5"), of(ints(), "-6"), of(nil, nines(100))}, of(ints(3), "5", "-6", nines(100))},
		{[]api.Val{row}, of(ints(1, 2), "1", "2")}, {[]api.Val{row, of(ints(2), "8", "9"), row}, of(ints(3, 2), "1", "2", "8", "9", "1", "2")},
		{[]api.Val{column}, of(ints(1, 2, 1), "3", "4")}, {[]api.Val{column, of(ints(2, 1), "5", "6")}, of(ints(2, 2, 1), "3", "4", "5", "6")},
		{[]api.Val{of(ints(0))}, of(ints(1, 0))}, {[]api.Val{of(ints(0)), {Shape: ints(0), Elems: texts()}}, of(ints(2, 0))}, {[]api.Val{of(ints(0, 3)), of(ints(0, 3))}, of(ints(2, 0, 3))}, {slices.Repeat([]api.Val{of(ints(0))}, 5000), of(ints(5000, 0))},
		{slices.Repeat([]api.Val{of(nil, "7")}, 4096), of(ints(4096), slices.Repeat(texts("7"), 4096)...)}, {slices.Repeat([]api.Val{row}, 2048), of(ints(2048, 2), slices.Repeat(texts("1", "2"), 2048)...)},
		{[]api.Val{counted(ints(4096))}, of(ints(1, 4096), counted(ints(4096)).Elems...)}, {[]api.Val{of(ints(1<<40, 0))}, of(ints(1, 1<<40, 0))},
	} {
		if v, err := val.Join(c.l); !like(v, c.want) || err != api.OK || !val.May(v) {
			t.Errorf("Join of %d of %v: %v, %d", len(c.l), c.l[0].Shape, v, err)
		}
	}
	noJoin(t, api.ErrRank, cube)
	noJoin(t, api.ErrRank, cube, cube)
}

// noJoin asks for an array that there isn't.
func noJoin(t *testing.T, want api.Errno, l ...api.Val) {
	t.Helper()
	if v, err := val.Join(l); !isZero(v) || err != want {
		t.Errorf("Join of %d: %v, %d; not %d", len(l), v, err, want)
	}
}

func TestJoinOfNoneAndOfUnlike(t *testing.T) { // P4.3, R1: ErrShape is named ahead of shape.Size's errors
	noJoin(t, api.ErrDom)
	noJoin(t, api.ErrDom, []api.Val{}...)
	five, row, column, none := of(nil, "5"), of(ints(2), "1", "2"), of(ints(2, 1), "3", "4"), of(ints(0))
	cube, wide := of(ints(1, 1, 1), "1"), of(ints(4097), "1")
	for _, pair := range [][2]api.Val{{five, row}, {row, column}, {row, of(ints(3), "1", "2", "3")}, {of(ints(1), "5"), five}, {none, five}, {none, row}, {of(ints(0, 2)), of(ints(0, 3))}, {of(ints(2, 3), "1", "2", "3", "4", "5", "6"), of(ints(3, 2), "1", "2", "3", "4", "5", "6")}, {cube, five}, {cube, of(ints(1, 1, 2), "1", "2")}, {wide, row}, {of(ints(-1)), row}, {of(ints(1, 1, 1, 1), "1"), cube}} {
		a, b := pair[0], pair[1]
		noJoin(t, api.ErrShape, a, b)
		noJoin(t, api.ErrShape, b, a)
		noJoin(t, api.ErrShape, a, a, b)
		noJoin(t, api.ErrShape, append(slices.Repeat([]api.Val{a}, 5000), b)...)
		noJoin(t, api.ErrShape, append([]api.Val{b}, slices.Repeat([]api.Val{a}, 5000)...)...)
	}
}

func TestJoinOfTooMany(t *testing.T) { // P4.3, R1: shape.Size's errors, of what comes out
	for _, c := range []struct {
		v    api.Val
		many int
		want api.Errno
	}{
		{of(nil, "7"), 4097, api.ErrBig}, {of(ints(2), "1", "2"), 2049, api.ErrBig}, {counted(ints(4096)), 2, api.ErrBig}, {counted(ints(64)), 65, api.ErrBig}, {counted(ints(16, 16)), 17, api.ErrBig},
		{of(ints(1, 1, 1), "1"), 1, api.ErrRank}, {of(ints(1, 1, 1), "1"), 5000, api.ErrRank}, {of(ints(0, 0, 0)), 3, api.ErrRank},
		{of(ints(1, 1, 1, 1), "1"), 1, api.ErrRank}, {of(ints(-1, 1, 1)), 1, api.ErrRank}, {of(ints(-1), "1"), 1, api.ErrDom}, {of(ints(-1), "1"), 5000, api.ErrDom}, {of(ints(2, math.MinInt)), 2, api.ErrDom}, {of(ints(4097), "1"), 1, api.ErrBig}, {of(ints(1<<40+1, 0)), 1, api.ErrBig}, {of(ints(math.MaxInt), "1"), 3, api.ErrBig}, // shapes that may not be
	} {
		noJoin(t, c.want, slices.Repeat([]api.Val{c.v}, c.many)...)
	}
}

func TestJoinOfWhatMayNotBe(t *testing.T) { // P4.3, R5: Join names no error of elements; what comes out may not be, either
	for _, c := range []struct {
		l    []api.Val
		want api.Val
	}{
		{[]api.Val{of(nil, "x"), of(nil, "1")}, of(ints(2), "x", "1")}, {[]api.Val{{}}, of(ints(1))}, {[]api.Val{of(nil, "1", "2"), of(nil)}, of(ints(2), "1", "2")}, {[]api.Val{of(ints(2), "1", "2", "3"), of(ints(2), "4", "5")}, of(ints(2, 2), "1", "2", "3", "4", "5")}, {[]api.Val{of(ints(0), "")}, of(ints(1, 0), "")},
	} {
		if v, err := val.Join(c.l); !like(v, c.want) || err != api.OK {
			t.Errorf("Join(%v): %v, %d", c.l, v, err)
		}
	}
}

// items are all of an array's.
func items(t *testing.T, v api.Val) []api.Val {
	t.Helper()
	var l []api.Val
	for i := range val.Many(v) {
		x, ok := val.Item(v, i)
		if !ok {
			t.Fatalf("Item(%v, %d): none", v, i)
		}
		l = append(l, x)
	}
	return l
}

func TestThereAndBack(t *testing.T) { // P4.4
	for _, v := range good() {
		l := items(t, v)
		switch joined, err := val.Join(l); {
		case len(l) == 0:
			noJoin(t, api.ErrDom, l...)
		case len(v.Shape) == 0: // its only item is it itself, so that an axis comes ahead
			if !like(joined, of(ints(1), v.Elems...)) || err != api.OK {
				t.Errorf("%v joined: %v, %d", v, joined, err)
			}
		case !val.Same(joined, v) || !like(joined, v) || err != api.OK:
			t.Errorf("items of %v joined: %v, %d", v, joined, err)
		}
	}
}

func TestBackAndThere(t *testing.T) { // P4.4, the other way round: what is joined has these items
	for _, s := range [][]int{nil, ints(0), ints(1), ints(3), ints(2, 3), ints(3, 0), ints(0, 3)} {
		var l []api.Val
		for n := range 7 {
			v := counted(s)
			for i := range v.Elems {
				v.Elems[i] = strconv.Itoa(1000*n - i)
			}
			l = append(l, v)
			joined, err := val.Join(l)
			if got := items(t, joined); err != api.OK || !slices.EqualFunc(got, l, like) || val.Many(joined) != n+1 {
				t.Errorf("Join(%v): %v, %d", l, joined, err)
			}
		}
	}
}

func TestWidth(t *testing.T) { // P4.3, R2, R5: it is the elements', whatever the shape
	for _, c := range []struct {
		v    api.Val
		want int
	}{
		{api.Val{}, api.W8}, {api.Val{Shape: ints(0), Elems: texts()}, api.W8}, {of(ints(2, 0, 3)), api.W8}, {of(ints(-1)), api.W8},
		{of(nil, "0"), api.W8}, {of(nil, "127"), api.W8}, {of(nil, "-128"), api.W8}, {of(nil, "128"), api.W16}, {of(nil, "-129"), api.W16}, {of(nil, "32767"), api.W16}, {of(nil, "-32768"), api.W16}, {of(nil, "32768"), api.W32}, {of(nil, "-32769"), api.W32}, {of(nil, "2147483647"), api.W32}, {of(nil, "-2147483648"), api.W32}, {of(nil, "2147483648"), api.W64}, {of(nil, "-2147483649"), api.W64}, {of(nil, "9223372036854775807"), api.W64}, {of(nil, "-9223372036854775808"), api.W64}, {of(nil, "9223372036854775808"), api.Big}, {of(nil, "-9223372036854775809"), api.Big}, {of(nil, nines(100)), api.Big},
		{of(ints(3), "1", "200", "3"), api.W16}, {of(ints(3), "200", "1", "3"), api.W16}, {of(ints(3), "1", "3", "200"), api.W16}, {of(ints(2, 2), "200", "40000", "-200", "5"), api.W32}, {of(ints(4), "1", "200", "40000", "2147483648"), api.W64}, {of(ints(2), "2147483648", nines(30)), api.Big},
		{of(nil, "x"), api.Big}, {of(nil, ""), api.Big}, {of(ints(2), "1", "01"), api.Big}, {of(ints(3), "-0", "1", "1"), api.Big}, {of(nil, nines(101)), api.Big},
		{of(ints(9), "1", "200"), api.W16}, {of(ints(1, 1, 1, 1), "40000"), api.W32}, {of(ints(4097), "1"), api.W8}, {of(nil, "1", "2147483648"), api.W64},
	} {
		if w := val.Width(c.v); w != c.want {
			t.Errorf("Width(%v): %d, not %d", c.v, w, c.want)
		}
	}
}

func TestExample(t *testing.T) { // the chapter's
	v := counted(ints(2, 3))
	l := items(t, v)
	if len(l) != 2 || !like(l[0], of(ints(3), "0", "1", "2")) || !like(l[1], of(ints(3), "3", "4", "5")) {
		t.Errorf("items of 2 by 3: %v", l)
	}
}

// answer is all that the calls tell of one array and two numbers.
type answer struct {
	numbers []int
	arrays  []api.Val
}

// asked is what all calls tell of an array, and of what is made of it.
func asked(v api.Val, i int) answer {
	x, rank := val.Int(v)
	all, dom := val.All(v)
	item, ok := val.Item(v, i)
	joined, err := val.Join([]api.Val{v, v})
	a := answer{ints(x, int(rank), int(dom), int(err), val.Width(v), val.Many(v)), []api.Val{item, joined, val.Vector(v.Elems), val.Ints(all), val.Ints(v.Shape)}}
	for _, yes := range []bool{ok, val.May(v), val.Same(v, joined)} {
		if yes {
			a.numbers = append(a.numbers, 1)
		} else {
			a.numbers = append(a.numbers, 0)
		}
	}
	a.numbers = append(a.numbers, all...)
	return a
}

// roomy is an array with room behind both lists, in which a 9 shows whether it was written to.
func roomy(v api.Val) (array, room api.Val) {
	room = api.Val{Shape: append(slices.Clone(v.Shape), 9, 9, 9, 9), Elems: append(slices.Clone(v.Elems), "9", "9", "9", "9")}
	return api.Val{Shape: room.Shape[:len(v.Shape)], Elems: room.Elems[:len(v.Elems)]}, room
}

// spoil writes all over an array, also behind the ends of its lists.
func spoil(v api.Val) {
	axes, elems := v.Shape[:cap(v.Shape)], v.Elems[:cap(v.Elems)]
	for i := range axes {
		axes[i] = -77
	}
	for i := range elems {
		elems[i] = "spoilt"
	}
}

func copied(v api.Val) api.Val {
	return api.Val{Shape: slices.Clone(v.Shape), Elems: slices.Clone(v.Elems)}
}

func some() []api.Val {
	return append([]api.Val{of(nil, "5"), of(ints(1), "5"), of(ints(3), "7", "8", "9"), counted(ints(2, 3)), counted(ints(2, 3, 4)), counted(ints(1, 6)), of(ints(0)), of(ints(3, 0))}, bad()...)
}

func TestAnswersAreNewMemory(t *testing.T) { // R3: nothing handed in is changed, none of it is handed out
	for _, v := range some() {
		for _, i := range ints(-1, 0, 1, 2) {
			x, room := roomy(v)
			kept := copied(room)
			for _, told := range asked(x, i).arrays {
				spoil(told)
			}
			if !like(room, kept) {
				t.Errorf("%v is %v then", kept, room)
			}
		}
	}
}

func TestAnswersStayAsTheyAre(t *testing.T) { // R3: what is handed in is changed afterwards
	for _, v := range some() {
		for _, i := range ints(0, 1) {
			x, room := roomy(v)
			told := asked(x, i).arrays
			spoil(room)
			if !slices.EqualFunc(told, asked(v, i).arrays, like) {
				t.Errorf("of %v there is %v then", v, told)
			}
		}
	}
	l := []api.Val{counted(ints(2)), of(ints(2), "8", "9")}
	joined, _ := val.Join(l)
	l[0], l[1] = api.Val{}, api.Val{}
	if !like(joined, of(ints(2, 2), "0", "1", "8", "9")) {
		t.Errorf("joined there is %v then", joined)
	}
}

func TestAnswersShareNothing(t *testing.T) { // R3: two items of one array, two joins of one list, and each list that is joined
	v := counted(ints(2, 3))
	one, _ := val.Item(v, 0)
	other, _ := val.Item(v, 0)
	next, _ := val.Item(v, 1)
	spoil(one)
	if !like(other, of(ints(3), "0", "1", "2")) || !like(next, of(ints(3), "3", "4", "5")) {
		t.Errorf("items share %v and %v", other, next)
	}
	alone := of(nil, "5")
	itself, _ := val.Item(alone, 0)
	spoil(itself)
	if !like(alone, of(nil, "5")) {
		t.Errorf("an array shares %v with its item", alone)
	}
	row := of(ints(2), "1", "2")
	l := []api.Val{row}
	joined, _ := val.Join(l)
	again, _ := val.Join(l)
	spoil(joined)
	if !like(again, of(ints(1, 2), "1", "2")) || !like(row, of(ints(2), "1", "2")) || !like(l[0], row) {
		t.Errorf("joins share %v and %v", again, row)
	}
}

func TestAnswersHangOnNothingElse(t *testing.T) { // R4, P1: asked again, the other way round, and side by side, of any arrays
	all := append(good(), bad()...)
	ask := func(i int) answer { return asked(all[i], i%5-1) }
	var got []answer
	for i := range all {
		got = append(got, ask(i))
	}
	var group sync.WaitGroup
	for range 4 {
		group.Go(func() {
			for i := len(all) - 1; i >= 0; i-- {
				if a := ask(i); !slices.Equal(a.numbers, got[i].numbers) || !slices.EqualFunc(a.arrays, got[i].arrays, like) {
					t.Errorf("%v: %v, and then %v", all[i], got[i], a)
				}
			}
		})
	}
	group.Wait()
}
