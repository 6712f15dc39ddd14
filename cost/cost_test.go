package cost_test

import (
	"math"
	"slices"
	"sync"
	"testing"

	"reredos/api"
	"reredos/budget"
	"reredos/cost"
)

// The calls, with the exact signatures that the chapter lists.
var (
	_ func() budget.Budget                                = cost.Node
	_ func() budget.Budget                                = cost.Call
	_ func(out api.Val, in ...api.Val) budget.Budget      = cost.Of
	_ func(out int, in ...int) budget.Budget              = cost.Size
	_ func(ops, vectors, n int, folds bool) budget.Budget = cost.Loop
)

func TestExamples(t *testing.T) { // the chapter's, and what chapter 19 tells of +/1 2 3: 2 nodes, 2 sums of scalars, and 3 elements that become 1
	if got := cost.Size(5, 5, 5); got != of(6, 5) {
		t.Errorf("a sum of 5 and 5 elements: %v", got)
	}
	if got := cost.Of(array(5), array(5), array(5)); got != of(6, 5) {
		t.Errorf("a sum of arrays of 5 and 5 elements: %v", got)
	}
	folded := budget.Sum(cost.Node(), cost.Node(), cost.Size(1, 1, 1), cost.Size(1, 1, 1), cost.Size(1, 3))
	if looped := budget.Sum(cost.Node(), cost.Node(), cost.Loop(0, 0, 3, true)); folded != of(10, 3) || looped != folded {
		t.Errorf("+/1 2 3: %v, and as a loop %v", folded, looped)
	}
}

func TestNodeAndCall(t *testing.T) { // P18.1
	if got := cost.Node(); got != of(1, 0) {
		t.Errorf("Node: %v", got)
	}
	if got := cost.Call(); got != of(2, 0) {
		t.Errorf("Call: %v", got)
	}
}

// size is a price written out.
type size struct {
	out  int
	in   []int
	want budget.Budget
}

func TestSize(t *testing.T) { // P18.1
	const least, most = math.MinInt, math.MaxInt
	for _, c := range []size{
		{0, nil, of(1, 0)}, {1, nil, of(2, 1)}, {2, nil, of(3, 2)}, {4096, nil, of(4097, 4096)}, {-1, nil, of(1, 0)}, {least, nil, of(1, 0)},
		{0, []int{0}, of(1, 0)}, {0, []int{1}, of(2, 0)}, {1, []int{0}, of(2, 1)}, {1, []int{1}, of(2, 1)}, {1, []int{3}, of(4, 1)}, {3, []int{1}, of(4, 3)}, {6, []int{6}, of(7, 6)}, {4096, []int{2}, of(4097, 4096)}, {2, []int{4096}, of(4097, 2)},
		{9, []int{2, 3}, of(10, 9)}, {2, []int{9, 3}, of(10, 2)}, {2, []int{3, 9}, of(10, 2)}, {1, []int{1, 1}, of(2, 1)}, {0, []int{0, 0}, of(1, 0)}, {6, []int{2, 3}, of(7, 6)},
		{9, []int{1, 2, 3}, of(10, 9)}, {3, []int{9, 1, 2}, of(10, 3)}, {3, []int{1, 9, 2}, of(10, 3)}, {3, []int{1, 2, 9}, of(10, 3)}, {0, []int{7, 7, 7}, of(8, 0)},
		{4, []int{1, 2, 3, 4, 5, 6, 7, 8}, of(9, 4)}, {4, []int{8, 7, 6, 5, 4, 3, 2, 1}, of(9, 4)}, {9, []int{8, 7, 6, 5, 4, 3, 2, 1}, of(10, 9)}, {5, slices.Repeat([]int{3}, 5000), of(6, 5)}, {0, append(slices.Repeat([]int{3}, 5000), 4), of(5, 0)},
		// below 0
		{-1, []int{-1}, of(1, 0)}, {-5, []int{3}, of(4, 0)}, {3, []int{-5}, of(4, 3)}, {least, []int{least, least}, of(1, 0)}, {least, []int{5, least}, of(6, 0)}, {0, []int{-1, -2}, of(1, 0)}, {2, []int{least}, of(3, 2)}, {-2, []int{-3, 0, -1}, of(1, 0)}, {-2, []int{-3, 1, -1}, of(2, 0)},
		// at 2^40 and about it
		{top - 2, nil, of(top-1, top-2)}, {top - 1, nil, of(top, top-1)}, {top, nil, of(top, top)}, {top + 1, nil, of(top, top)}, {2 * top, nil, of(top, top)}, {most - 1, nil, of(top, top)}, {most, nil, of(top, top)},
		{0, []int{top - 2}, of(top-1, 0)}, {0, []int{top - 1}, of(top, 0)}, {0, []int{top}, of(top, 0)}, {7, []int{top + 1}, of(top, 7)}, {7, []int{most}, of(top, 7)}, {7, []int{1, most, 2}, of(top, 7)}, {7, []int{1, 2, most}, of(top, 7)}, {-7, []int{most, least}, of(top, 0)},
		{most, []int{0}, of(top, top)}, {most, []int{most, most}, of(top, top)}, {top, []int{top, top}, of(top, top)}, {top - 1, []int{top}, of(top, top-1)}, {top - 2, []int{1, top - 2}, of(top-1, top-2)}, {most, []int{least}, of(top, top)},
	} {
		if got := cost.Size(c.out, c.in...); got != c.want {
			t.Errorf("Size(%d, %d of %.200v): %v, not %v", c.out, len(c.in), c.in, got, c.want)
		}
	}
	if cost.Size(4, 2, 8) != of(9, 4) || cost.Size(4, 8) != of(9, 4) || cost.Size(4) != of(5, 4) {
		t.Error("Size, told one by one")
	}
}

// sized holds Size against the chapter's words.
func sized(t *testing.T, out int, in ...int) {
	t.Helper()
	if got, want := cost.Size(out, in...), sizeSaid(out, in); got != want {
		t.Errorf("Size(%d, %.200v): %v, not %v", out, in, got, want)
	}
}

func TestSizeOfAll(t *testing.T) { // P18.1: of up to three numbers in each place, and of rows of any
	for _, out := range edges() {
		sized(t, out)
		for _, x := range edges() {
			sized(t, out, x)
			for _, y := range edges() {
				sized(t, out, x, y)
			}
		}
	}
	for _, out := range few() {
		for _, x := range few() {
			for _, y := range few() {
				for _, z := range few() {
					sized(t, out, x, y, z)
				}
			}
		}
	}
	r := random(1)
	for range 20000 {
		sized(t, r.number(), r.numbers(r.below(12))...)
	}
}

func TestSizeOfTheGreatest(t *testing.T) { // P18.1: the greatest one, wherever it stands among many
	for _, most := range []int{4, 5, 1000, top - 2, top - 1, top, math.MaxInt} {
		for many := 1; many < 12; many++ {
			for place := range many {
				in := slices.Repeat([]int{3}, many)
				in[place] = most
				if got := cost.Size(2, in...); got != of(min(most, top-1)+1, 2) {
					t.Errorf("Size(2, %v): %v", in, got)
				}
				in[place] = math.MinInt
				sized(t, most, in...)
			}
		}
	}
}

func TestOf(t *testing.T) { // P18.1: of how many elements arrays have, whatever their axes
	m := api.Val{Shape: []int{2, 3}, Elems: array(6).Elems}
	cube := api.Val{Shape: []int{2, 1, 2}, Elems: array(4).Elems}
	only := api.Val{Elems: []string{"5"}}
	hollow := api.Val{Shape: []int{3, 0}}
	for _, c := range []struct {
		out  api.Val
		in   []api.Val
		want budget.Budget
	}{
		{array(0), nil, of(1, 0)}, {only, nil, of(2, 1)}, {array(5), nil, of(6, 5)}, {m, nil, of(7, 6)}, {cube, nil, of(5, 4)}, {hollow, nil, of(1, 0)}, {array(cells), nil, of(4097, 4096)},
		{only, []api.Val{array(3)}, of(4, 1)}, {array(3), []api.Val{only}, of(4, 3)}, {only, []api.Val{m}, of(7, 1)}, {m, []api.Val{m}, of(7, 6)}, {array(0), []api.Val{only}, of(2, 0)}, {hollow, []api.Val{hollow}, of(1, 0)}, {array(2), []api.Val{array(cells)}, of(4097, 2)},
		{only, []api.Val{only, only}, of(2, 1)}, {array(5), []api.Val{array(5), array(5)}, of(6, 5)}, {m, []api.Val{m, only}, of(7, 6)}, {only, []api.Val{m, cube}, of(7, 1)}, {only, []api.Val{cube, m}, of(7, 1)}, {m, []api.Val{cube, only}, of(7, 6)}, {hollow, []api.Val{hollow, only}, of(2, 0)},
		{cube, []api.Val{cube, only, m}, of(7, 4)}, {cube, []api.Val{m, only, only}, of(7, 4)}, {cube, []api.Val{only, m, only}, of(7, 4)}, {m, []api.Val{cube, only, hollow}, of(7, 6)}, {hollow, []api.Val{hollow, hollow, hollow}, of(1, 0)}, {cube, slices.Repeat([]api.Val{m}, 1000), of(7, 4)},
	} {
		if got := cost.Of(c.out, c.in...); got != c.want {
			t.Errorf("Of(%.100v, %.300v): %v, not %v", c.out, c.in, got, c.want)
		}
	}
}

// wrongs are arrays that may not be, in each way.
func wrongs() []api.Val {
	return []api.Val{
		{}, {Shape: []int{2}}, {Shape: []int{2}, Elems: []string{"1"}}, {Shape: []int{2}, Elems: []string{"1", "2", "3"}}, {Elems: []string{"1", "2"}}, {Shape: []int{0}, Elems: []string{"1", "2"}}, {Shape: []int{2, 2, 2, 2}, Elems: []string{"1"}}, {Shape: []int{-1}, Elems: []string{"1", "2", "3", "4"}},
		{Shape: []int{math.MaxInt, math.MaxInt}, Elems: []string{"1"}}, {Shape: []int{math.MinInt}}, {Shape: []int{1}, Elems: []string{"x"}}, {Shape: []int{3}, Elems: []string{"", "01", "-0"}}, {Shape: []int{1 << 40, 0}, Elems: []string{"\x00"}}, array(cells + 1), array(3 * cells), {Elems: array(2 * cells).Elems},
	}
}

func TestOfAll(t *testing.T) { // P18.1: against Size, of each up to three of arrays that may be and that may not, R5
	all := append(wrongs(), array(0), array(1), array(2), array(7), array(cells-1), array(cells), api.Val{Elems: []string{"5"}}, api.Val{Shape: []int{3, 0, 1 << 40}}, api.Val{Shape: []int{2, 2, 2}, Elems: array(8).Elems})
	ask := func(l ...api.Val) {
		var many []int
		for _, v := range l {
			many = append(many, len(v.Elems))
		}
		if got, want := cost.Of(l[0], l[1:]...), cost.Size(many[0], many[1:]...); got != want || got != sizeSaid(many[0], many[1:]) {
			t.Errorf("Of arrays of %v: %v, not %v", many, got, want)
		}
	}
	for _, out := range all {
		ask(out)
		for _, v := range all {
			ask(out, v)
			for _, w := range all {
				ask(out, v, w)
				ask(out, v, w, v)
				ask(out, v, v, w)
			}
		}
	}
}

func TestLoop(t *testing.T) { // P18.2: written out
	const least, most = math.MinInt, math.MaxInt
	for _, c := range []struct {
		loop
		want budget.Budget
	}{
		// no op
		{loop{0, 0, 0, false}, of(0, 0)}, {loop{0, 0, 5, false}, of(0, 0)}, {loop{0, 3, 5, false}, of(0, 0)}, {loop{0, 0, 0, true}, of(2, 1)}, {loop{0, 0, 1, true}, of(2, 1)}, {loop{0, 0, 2, true}, of(5, 2)}, {loop{0, 0, 3, true}, of(8, 3)}, {loop{0, 9, 3, true}, of(8, 3)},
		// ops of scalars
		{loop{1, 0, 0, false}, of(3, 1)}, {loop{1, 0, 5, false}, of(3, 1)}, {loop{4, 0, 5, false}, of(12, 4)}, {loop{4, 0, 1, true}, of(14, 5)}, {loop{4, 0, 0, true}, of(14, 5)}, {loop{4, 0, 5, true}, of(26, 9)},
		// as many vectors as ops, or more
		{loop{1, 1, 0, false}, of(2, 0)}, {loop{1, 1, 1, false}, of(3, 1)}, {loop{1, 1, 5, false}, of(7, 5)}, {loop{3, 3, 5, false}, of(21, 15)}, {loop{3, 4, 5, false}, of(21, 15)}, {loop{3, most, 5, false}, of(21, 15)}, {loop{3, 3, 5, true}, of(35, 20)}, {loop{3, 3, 0, true}, of(8, 1)}, {loop{3, 3, 1, true}, of(11, 4)}, {loop{3, 3, 2, true}, of(17, 8)},
		// fewer vectors than ops
		{loop{3, 1, 5, false}, of(13, 7)}, {loop{3, 2, 5, false}, of(17, 11)}, {loop{3, 2, 0, false}, of(7, 1)}, {loop{3, 1, 5, true}, of(27, 12)}, {loop{7, 3, 10, false}, of(48, 34)}, {loop{7, 3, 10, true}, of(77, 44)},
		// below 0
		{loop{-1, 0, 5, false}, of(0, 0)}, {loop{-1, -1, -1, false}, of(0, 0)}, {loop{least, least, least, false}, of(0, 0)}, {loop{least, least, least, true}, of(2, 1)}, {loop{least, most, 3, true}, of(8, 3)}, {loop{-3, -5, 5, false}, of(0, 0)}, {loop{3, -1, 5, false}, of(9, 3)}, {loop{3, least, 5, false}, of(9, 3)}, {loop{3, 2, -1, false}, of(7, 1)}, {loop{3, 2, least, true}, of(9, 2)},
		// n at 4096 and about it
		{loop{2, 1, 4095, false}, of(4100, 4096)}, {loop{2, 1, 4096, false}, of(4101, 4097)}, {loop{2, 1, 4097, false}, of(4101, 4097)}, {loop{2, 1, most, false}, of(4101, 4097)}, {loop{2, 1, 1 << 32, true}, of(16388, 8193)}, {loop{0, 0, 4095, true}, of(12284, 4095)}, {loop{0, 0, 4096, true}, of(12287, 4096)}, {loop{0, 0, 4097, true}, of(12287, 4096)}, {loop{0, 0, most, true}, of(12287, 4096)},
		// at 2^40 and about it: 366503875925 ops of scalars cost 1 less than that
		{loop{366503875925, 0, 9, false}, of(top-1, 366503875925)}, {loop{366503875926, 0, 9, false}, of(top, 366503875926)}, {loop{366503875925, 0, 0, true}, of(top, 366503875926)}, {loop{top - 1, 0, 9, false}, of(top, top-1)}, {loop{top, 0, 9, false}, of(top, top)}, {loop{top + 1, 0, 9, false}, of(top, top)}, {loop{most, 0, 9, false}, of(top, top)}, {loop{most, least, 9, true}, of(top, top)},
		{loop{top / 2, top / 2, 0, false}, of(top, 0)}, {loop{top/2 - 1, top / 2, 0, false}, of(top-2, 0)}, {loop{most, most, 0, false}, of(top, 0)}, {loop{most, most, 0, true}, of(top, 1)}, {loop{most, most, 4096, true}, of(top, top)}, {loop{1 << 28, 1 << 28, 4096, false}, of(top, top)}, {loop{1<<28 - 1, 1 << 28, 4096, false}, of(top, top-4096)}, {loop{268304447, most, 4096, false}, of(1099511623806, 1098975014912)}, {loop{268304448, most, 4096, false}, of(top, 1098975019008)},
		{loop{most, 1, 4096, false}, of(top, top)}, {loop{most, most - 1, 0, false}, of(top, 1)}, {loop{most, most - 5, 0, true}, of(top, 6)}, {loop{top, top - 3, 1, false}, of(top, top)},
	} {
		if got := c.cost(); got != c.want {
			t.Errorf("Loop of %v: %v, not %v", c.loop, got, c.want)
		}
	}
}

func TestLoopOfAll(t *testing.T) { // P18.2: against the sum that the chapter names, and in whole numbers
	for _, l := range someLoops() {
		got := l.cost()
		if want := l.named(); got != want {
			t.Errorf("Loop of %v: %v, and the sum %v", l, got, want)
		}
		if want := l.said(); got != want {
			t.Errorf("Loop of %v: %v, not %v", l, got, want)
		}
	}
}

func TestLoopOfEachN(t *testing.T) { // P18.2: of each n that isn't bounded, and beside these
	for n := -2; n < cells+3; n++ {
		for _, l := range []loop{{0, 0, n, true}, {5, 2, n, false}, {5, 2, n, true}, {2, 5, n, true}, {3, 0, n, false}} {
			if got := l.cost(); got != l.said() || got != l.named() {
				t.Errorf("Loop of %v: %v, not %v", l, got, l.said())
			}
		}
	}
}

// noLess tells whether a budget is no less than another one, in both parts.
func noLess(more, b budget.Budget) bool { return more.Fuel >= b.Fuel && more.Cells >= b.Cells }

// raised are greater numbers than x, some by a little and some by much.
func raised(x int) []int {
	var l []int
	for _, y := range append(few(), x/2+x/2, max(x, 0)+1, min(x, math.MaxInt-1)+1) {
		if y > x {
			l = append(l, y)
		}
	}
	return l
}

func TestMoreSizeCostsNoLess(t *testing.T) { // P18.3: each number raised, and one more of them
	lists := [][]int{}
	for _, x := range few() {
		lists = append(lists, []int{x})
		for _, y := range few() {
			lists = append(lists, []int{x, y})
			for _, z := range few() {
				lists = append(lists, []int{x, y, z})
			}
		}
	}
	for _, l := range lists {
		b := cost.Size(l[0], l[1:]...)
		for i, x := range l {
			for _, y := range raised(x) {
				more := slices.Clone(l)
				more[i] = y
				if got := cost.Size(more[0], more[1:]...); !noLess(got, b) {
					t.Errorf("Size of %v: %v, and of %v: %v", l, b, more, got)
				}
			}
		}
		for _, y := range few() {
			if got := cost.Size(l[0], append(slices.Clone(l[1:]), y)...); !noLess(got, b) {
				t.Errorf("Size of %v: %v, and with %d: %v", l, b, y, got)
			}
		}
	}
}

func TestMoreElementsCostNoLess(t *testing.T) { // P18.3: an array of more elements in each place, and one more of them
	many := []int{0, 1, 2, 5, cells, cells + 1}
	for _, x := range many {
		for _, y := range many {
			for _, z := range many {
				b := cost.Of(array(x), array(y), array(z))
				for _, got := range []budget.Budget{cost.Of(array(x+1), array(y), array(z)), cost.Of(array(x), array(y+1), array(z)), cost.Of(array(x), array(y), array(z+1)), cost.Of(array(x), array(y), array(z), array(0)), cost.Of(array(x), array(y), array(z), array(6))} {
					if !noLess(got, b) {
						t.Errorf("Of %d, %d, %d elements: %v, and of more: %v", x, y, z, b, got)
					}
				}
			}
		}
	}
}

// mores are loops of more: each number raised, and the fold added. Vectors aren't more where they have no element.
func mores(l loop) []loop {
	var all []loop
	for _, x := range raised(l.ops) {
		all = append(all, loop{x, l.vectors, l.n, l.folds})
	}
	for _, x := range raised(l.vectors) {
		if l.n > 0 {
			all = append(all, loop{l.ops, x, l.n, l.folds})
		}
	}
	for _, x := range raised(l.n) {
		all = append(all, loop{l.ops, l.vectors, x, l.folds})
	}
	return append(all, loop{l.ops, l.vectors, l.n, true})
}

func TestMoreLoopCostsNoLess(t *testing.T) { // P18.3
	some := []int{-1, 0, 1, 2, 3, 9, 1 << 28, top / 2, top - 1, top, math.MaxInt}
	for _, l := range append(loops(few(), few(), few()), loops(some, some, []int{0, 1, 2, 9, cells - 1})...) {
		b := l.cost()
		for _, more := range mores(l) {
			if got := more.cost(); !noLess(got, b) {
				t.Errorf("Loop of %v: %v, and of %v: %v", l, b, more, got)
			}
		}
	}
}

// A vector of no element is less than a scalar, by P18.2's own words: the one sum in which a number that is raised costs less.
func TestVectorsOfNoElement(t *testing.T) { // P18.2
	for ops := range 20 {
		for vectors := range ops {
			for _, folds := range []bool{false, true} {
				scalar, hollow := cost.Loop(ops, vectors, 0, folds), cost.Loop(ops, vectors+1, 0, folds)
				if hollow != of(scalar.Fuel-1, scalar.Cells-1) {
					t.Errorf("%d ops, %d vectors of no element: %v, and one vector more: %v", ops, vectors, scalar, hollow)
				}
			}
		}
	}
}

func TestNilAndEmptyAreTheSame(t *testing.T) { // R2
	for _, x := range edges() {
		if b := cost.Size(x); cost.Size(x, nil...) != b || cost.Size(x, []int{}...) != b {
			t.Errorf("Size(%d) of nothing: %v", x, b)
		}
	}
	nothing := []api.Val{{}, {Shape: []int{}}, {Elems: []string{}}, {Shape: []int{}, Elems: []string{}}}
	for _, v := range nothing {
		if cost.Of(v) != of(1, 0) || cost.Of(v, nil...) != of(1, 0) || cost.Of(v, []api.Val{}...) != of(1, 0) {
			t.Errorf("Of(%#v): %v", v, cost.Of(v))
		}
		for _, w := range nothing {
			if cost.Of(v, w) != of(1, 0) || cost.Of(v, v, w) != of(1, 0) {
				t.Errorf("Of(%#v, %#v): %v", v, w, cost.Of(v, w))
			}
		}
	}
}

func TestWhatIsHandedInStays(t *testing.T) { // R3: not what is behind a list's end is changed either, and what is told stays
	numbers := []int{-3, 9, top + 4, 2, 7}
	kept := slices.Clone(numbers)
	first := cost.Size(1, numbers[:2]...)
	if !slices.Equal(numbers, kept) || first != of(10, 1) {
		t.Errorf("%v: %v, and %v then", kept, first, numbers)
	}
	numbers[1] = 100
	if first != of(10, 1) || cost.Size(1, kept[:2]...) != first || cost.Size(1, numbers[:2]...) != of(101, 1) {
		t.Errorf("there is %v then", first)
	}
	arrays := func() []api.Val {
		return []api.Val{{Shape: []int{2}, Elems: []string{"1", "2", "3"}[:2]}, {Shape: []int{-1}, Elems: []string{"", "x"}}, {Elems: []string{"5"}}, {}}
	}
	same := func(a, b api.Val) bool {
		return slices.Equal(a.Shape, b.Shape) && slices.Equal(a.Elems[:cap(a.Elems)], b.Elems[:cap(b.Elems)])
	}
	all, out := arrays(), array(4)
	second := cost.Of(out, all[:3]...)
	if !slices.EqualFunc(all, arrays(), same) || !same(out, array(4)) || second != of(5, 4) {
		t.Errorf("Of(%v, %v): %v", out, all, second)
	}
	all[2], out = array(9), array(1)
	if second != of(5, 4) || cost.Of(out, all[:3]...) != of(10, 1) {
		t.Errorf("there is %v then", second)
	}
}

func TestAnswersHangOnNothingElse(t *testing.T) { // R4, P1: asked again, the other way round, and side by side, of any numbers
	r := random(5)
	l := append(edges(), r.numbers(3000)...)
	ask := func(i int) [5]budget.Budget {
		x, y, z := l[i], l[(i*7+3)%len(l)], l[(i*11+5)%len(l)]
		return [5]budget.Budget{cost.Node(), cost.Call(), cost.Size(x, y, z), cost.Of(array(i%50), array(i%7), array(i%99)), cost.Loop(x, y, z, i%2 == 0)}
	}
	var got [][5]budget.Budget
	for i := range l {
		got = append(got, ask(i))
	}
	var group sync.WaitGroup
	for range 4 {
		group.Go(func() {
			for i := len(l) - 1; i >= 0; i-- {
				if a := ask(i); a != got[i] {
					t.Errorf("%d: %v, and then %v", l[i], got[i], a)
				}
			}
		})
	}
	group.Wait()
}
