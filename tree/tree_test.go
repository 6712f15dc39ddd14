package tree_test

import (
	"math"
	"slices"
	"strings"
	"sync"
	"testing"

	"reredos/api"
	"reredos/num"
	"reredos/tree"
)

// The calls, with the exact signatures that the chapter lists.
var (
	_ func(n api.Node) int                            = tree.Kids
	_ func(l []api.Node, i int) (int, bool)           = tree.End
	_ func(l []api.Node, i int) []int                 = tree.Under
	_ func(l []api.Node) int                          = tree.Depth
	_ func(l []api.Node) bool                         = tree.May
	_ func(n api.Node, kids ...[]api.Node) []api.Node = tree.Node
	_ func(a, b []api.Node) bool                      = tree.Same
)

func TestExample(t *testing.T) { // the chapter's: 1+2
	l := tree.Node(dyad("+", ""), list(lit("1")), list(lit("2")))
	if want := list(dyad("+", ""), lit("1"), lit("2")); !equal(l, want) || !tree.Same(l, want) || !tree.May(l) {
		t.Errorf("it is %v", l)
	}
	ends(t, l, 0, 3, true)
	under(t, l, 0, 1, 2)
	if got := tree.Depth(l); got != 2 {
		t.Errorf("it is %d deep", got)
	}
}

// whole holds End, Under and Depth against the chapter's words, at all places of a list and beside them.
func whole(t *testing.T, l []api.Node) {
	t.Helper()
	for i := -2; i <= len(l)+2; i++ {
		b := grown(l, i)
		if b == nil {
			ends(t, l, i, 0, false)
		} else {
			ends(t, l, i, b.end, true)
		}
		under(t, l, i, b.begins()...)
	}
	if got, want := tree.Depth(l), grown(l, 0).depth(); got != want {
		t.Errorf("Depth(%v): %d, not %d", l, got, want)
	}
}

func ends(t *testing.T, l []api.Node, i, want int, wantOK bool) {
	t.Helper()
	if got, ok := tree.End(l, i); got != want || ok != wantOK {
		t.Errorf("End(%.300v, %d): %d, %v; not %d, %v", l, i, got, ok, want, wantOK)
	}
}

func under(t *testing.T, l []api.Node, i int, want ...int) {
	t.Helper()
	if got := tree.Under(l, i); !slices.Equal(got, want) {
		t.Errorf("Under(%.300v, %d): %v, not %v", l, i, got, want)
	}
}

func TestKids(t *testing.T) { // P8.1's words, written out: each kind, with { and without it
	for kind, want := range map[int][2]int{1: {0, 0}, 2: {0, 0}, 3: {1, 2}, 4: {2, 3}, 5: {1, 1}, 6: {2, 2}, 7: {1, 1}, 8: {2, 2}, 0: {-1, -1}, -1: {-1, -1}, 9: {-1, -1}, 10: {-1, -1}, -3: {-1, -1}, -4: {-1, -1}, 19: {-1, -1}, 20: {-1, -1}, 259: {-1, -1}, math.MinInt: {-1, -1}, math.MaxInt: {-1, -1}, 1<<32 + 4: {-1, -1}} {
		for _, verb := range texts() {
			with := 0
			if verb == "{" {
				with = 1
			}
			for _, n := range []api.Node{{Kind: kind, Verb: verb}, {Kind: kind, Verb: verb, Adv: "/"}, {Kind: kind, Verb: verb, Adv: "{", Name: "{", Nums: []string{"{", "1"}}, {Kind: kind, Verb: verb, Name: "F"}} { // R5: no other part is asked for
				if got := tree.Kids(n); got != want[with] {
					t.Errorf("Kids(%v): %d", n, got)
				}
			}
		}
	}
	if api.Lit != 1 || api.Name != 2 || api.Monad != 3 || api.Dyad != 4 || api.Assign != 5 || api.Amend != 6 || api.Define != 7 || api.Index != 8 {
		t.Error("the kinds are others")
	}
}

func TestNothing(t *testing.T) { // P8.1, P8.2, R1, R2: no node
	for _, l := range [][]api.Node{nil, {}, make([]api.Node, 0, 5)} {
		for _, i := range []int{math.MinInt, -2, -1, 0, 1, 2, math.MaxInt} {
			ends(t, l, i, 0, false)
			under(t, l, i)
		}
		if tree.Depth(l) != 0 || tree.May(l) || !tree.Same(l, nil) || !tree.Same(nil, l) {
			t.Errorf("of no node: %d, %v", tree.Depth(l), tree.May(l))
		}
	}
}

func TestOneNode(t *testing.T) { // P8.1: a tree alone only if none is below it
	for _, n := range append(nodes(), assign("a"), amend("a"), define("F"), api.Node{Kind: 0}, api.Node{Kind: -1}, api.Node{Kind: 9}) {
		l := list(n)
		if n.Kind == 1 || n.Kind == 2 {
			ends(t, l, 0, 1, true)
			if tree.Depth(l) != 1 || !tree.May(l) {
				t.Errorf("%v: %d, %v", l, tree.Depth(l), tree.May(l))
			}
		} else {
			ends(t, l, 0, 0, false)
			if tree.Depth(l) != 0 || tree.May(l) {
				t.Errorf("%v: %d, %v", l, tree.Depth(l), tree.May(l))
			}
		}
		under(t, l, 0)
		for _, i := range []int{math.MinInt, -1, 1, 2, math.MaxInt} {
			ends(t, l, i, 0, false)
			under(t, l, i)
		}
	}
}

// sample is a list, and at each node the place behind its tree (0, if there is none), and where those below begin; and how deep it is.
type sample struct {
	l     []api.Node
	ends  []int
	under [][]int
	depth int
}

func samples() []sample {
	one, x, none := lit("1"), name("x"), api.Node{Kind: 9}
	plus, minus, body, both := dyad("+", ""), monad("-", ""), monad("{", ""), dyad("{", "'")
	return []sample{
		{list(one), []int{1}, [][]int{nil}, 1},
		{list(minus, x), []int{2, 2}, [][]int{{1}, nil}, 2},
		{list(plus, one, x), []int{3, 2, 3}, [][]int{{1, 2}, nil, nil}, 2},
		{list(index(), x, one), []int{3, 2, 3}, [][]int{{1, 2}, nil, nil}, 2},
		{list(assign("a"), one), []int{2, 2}, [][]int{{1}, nil}, 2},
		{list(amend("a"), one, x), []int{3, 2, 3}, [][]int{{1, 2}, nil, nil}, 2},
		{list(define("F"), x), []int{2, 2}, [][]int{{1}, nil}, 2},
		{list(body, x, one), []int{3, 2, 3}, [][]int{{1, 2}, nil, nil}, 2},
		{list(both, x, one, one), []int{4, 2, 3, 4}, [][]int{{1, 2, 3}, nil, nil, nil}, 2},
		// in trees
		{list(plus, plus, one, x, one), []int{5, 4, 3, 4, 5}, [][]int{{1, 4}, {2, 3}, nil, nil, nil}, 3},
		{list(plus, one, plus, one, x), []int{5, 2, 5, 4, 5}, [][]int{{1, 2}, nil, {3, 4}, nil, nil}, 3},
		{list(both, plus, x, one, minus, x, index(), x, one), []int{9, 4, 3, 4, 6, 6, 9, 8, 9}, [][]int{{1, 4, 6}, {2, 3}, nil, nil, {5}, nil, {7, 8}, nil, nil}, 3},
		{list(assign("a"), plus, minus, minus, x, one), []int{6, 6, 5, 5, 5, 6}, [][]int{{1}, {2, 5}, {3}, {4}, nil, nil}, 5},
		{list(amend("a"), minus, minus, one, minus, x), []int{6, 4, 4, 4, 6, 6}, [][]int{{1, 4}, {2}, {3}, nil, {5}, nil}, 4},
		{list(define("F"), body, minus, x, body, x, x), []int{7, 7, 4, 4, 7, 6, 7}, [][]int{{1}, {2, 4}, {3}, nil, {5, 6}, nil, nil}, 4},
		{list(plus, assign("a"), one, define("F"), x), []int{5, 3, 3, 5, 5}, [][]int{{1, 3}, {2}, nil, {4}, nil}, 3}, // below the head, too
		// with nodes behind
		{list(one, x), []int{1, 2}, [][]int{nil, nil}, 1},
		{list(x, minus), []int{1, 0}, [][]int{nil, nil}, 1},
		{list(one, none), []int{1, 0}, [][]int{nil, nil}, 1},
		{list(plus, one, x, plus, one), []int{3, 2, 3, 0, 5}, [][]int{{1, 2}, nil, nil, nil, nil}, 2},
		{list(minus, x, minus, minus, one), []int{2, 2, 5, 5, 5}, [][]int{{1}, nil, {3}, {4}, nil}, 2},
		// that aren't whole at the head
		{list(minus), []int{0}, [][]int{nil}, 0},
		{list(plus, one), []int{0, 2}, [][]int{nil, nil}, 0},
		{list(body, x), []int{0, 2}, [][]int{nil, nil}, 0},
		{list(both, x, one), []int{0, 2, 3}, [][]int{nil, nil, nil}, 0},
		{list(both, x, one, minus), []int{0, 2, 3, 0}, [][]int{nil, nil, nil, nil}, 0},
		{list(plus, plus, one, x), []int{0, 4, 3, 4}, [][]int{nil, {2, 3}, nil, nil}, 0},
		{list(amend("a"), index(), x, one), []int{0, 4, 3, 4}, [][]int{nil, {2, 3}, nil, nil}, 0},
		// with a kind that is none
		{list(none), []int{0}, [][]int{nil}, 0},
		{list(none, one), []int{0, 2}, [][]int{nil, nil}, 0},
		{list(minus, none), []int{0, 0}, [][]int{nil, nil}, 0},
		{list(plus, none, one), []int{0, 0, 3}, [][]int{nil, nil, nil}, 0},
		{list(plus, one, none, x, x), []int{0, 2, 0, 4, 5}, [][]int{nil, nil, nil, nil, nil}, 0},
		{list(plus, minus, one, api.Node{Kind: -1}, x), []int{0, 3, 3, 0, 5}, [][]int{nil, {2}, nil, nil, nil}, 0},
		{list(plus, minus, one, x, api.Node{Kind: 0}), []int{4, 3, 3, 4, 0}, [][]int{{1, 3}, {2}, nil, nil, nil}, 3},
	}
}

func TestSamples(t *testing.T) { // P8.1: written out
	for _, s := range samples() {
		for i, end := range s.ends {
			ends(t, s.l, i, end, end > 0)
			under(t, s.l, i, s.under[i]...)
		}
		for _, i := range []int{math.MinInt, -len(s.l), -2, -1, len(s.l), len(s.l) + 1, 2 * len(s.l), math.MaxInt} {
			ends(t, s.l, i, 0, false)
			under(t, s.l, i)
		}
		if got := tree.Depth(s.l); got != s.depth {
			t.Errorf("Depth(%v): %d", s.l, got)
		}
		whole(t, s.l)
	}
}

func TestAnyList(t *testing.T) { // P8.1, P1, R5: of any nodes
	r, found := random(1), 0
	for range 20000 {
		l := r.loose()
		whole(t, l)
		if b := grown(l, 0); b != nil && len(b.below) > 1 {
			found++
		}
	}
	for range 3000 {
		l := r.line(7)
		whole(t, l)
		whole(t, r.spoilt(l))
		whole(t, l[:r.below(len(l))])
		whole(t, row(l, r.loose()))
	}
	if found < 1000 {
		t.Errorf("%d lists begin with a tree of more", found)
	}
}

func TestDepthOfChains(t *testing.T) { // P8.1: 1, and the greatest of those below, more, wherever the deep one stands
	for _, c := range chains() {
		for _, levels := range []int{1, 2, 3, 4, 5, 39, 40, 41, 42, 100} {
			l := c.deep(levels)
			want := grown(l, 0).depth()
			if want < levels {
				t.Errorf("%s: %d levels are %d", c.what, levels, want)
			}
			if got := tree.Depth(l); got != want {
				t.Errorf("%s of %d levels: %d, not %d", c.what, levels, got, want)
			}
			if got := tree.Depth(row(l, l)); got != want { // nodes behind aren't asked for
				t.Errorf("%s of %d levels, and more behind: %d, not %d", c.what, levels, got, want)
			}
			if got := tree.Depth(row(l[:len(l)-1], list(api.Node{Kind: 9}))); got != 0 {
				t.Errorf("%s of %d levels, not whole: %d", c.what, levels, got)
			}
		}
	}
}

func TestDeepAndLong(t *testing.T) { // P1: lists of 2^16 levels, and of very many nodes, are soon gone through
	const levels = 1 << 16
	for _, c := range chains() {
		l := c.deep(levels)
		ends(t, l, 0, len(l), true)
		ends(t, l[:len(l)-1], 0, 0, false)
		if got := tree.Depth(l); got < levels {
			t.Errorf("%s: %d", c.what, got)
		}
		if kids, _ := kidsOf(l[0]); len(tree.Under(l, 0)) != kids || tree.May(l) || len(tree.Node(index(), l, l)) != 2*len(l)+1 || !tree.Same(l, c.deep(levels)) {
			t.Errorf("%s of %d levels", c.what, levels)
		}
	}
	long := list(name("x")) // as wide as it is deep: 20 levels of two below each
	for range 20 {
		long = row(list(dyad("+", "")), long, long)
	}
	ends(t, long, 0, 1<<21-1, true)
	under(t, long, 0, 1, 1<<20)
	if tree.Depth(long) != 21 || !tree.May(long) || tree.May(append(long, name("x"))) {
		t.Errorf("of %d nodes: %d", len(long), tree.Depth(long))
	}
	heads := slices.Repeat(list(dyad("{", "")), 1<<20) // as many are missing
	ends(t, heads, 0, 0, false)
	under(t, heads, 0)
	if tree.Depth(heads) != 0 || tree.May(heads) {
		t.Error("of heads alone")
	}
}

// stood is a tree with a node at its head, and a Lit for each that is below.
func stood(n api.Node) []api.Node {
	kids, _ := kidsOf(n)
	return row(list(n), slices.Repeat(list(lit("1")), kids))
}

// mays holds May against what it should tell.
func mays(t *testing.T, l []api.Node, want bool) {
	t.Helper()
	if got := tree.May(l); got != want {
		t.Errorf("May(%.300v): %v", l, got)
	}
}

func TestNodesThatMayBe(t *testing.T) { // P8.2
	for _, n := range nodes() {
		mays(t, stood(n), true)
		if n.Kind < 5 || n.Kind > 7 { // below the head, too, at each place
			mays(t, row(list(monad("-", "")), stood(n)), true)
			mays(t, row(list(index()), stood(n), stood(n)), true)
			mays(t, row(list(dyad("{", "")), stood(n), stood(n), stood(n)), true)
			mays(t, row(list(assign("a")), stood(n)), true)
			mays(t, row(list(define("F")), stood(n)), true)
		}
	}
}

func TestEachText(t *testing.T) { // P8.2: every text in each part of each kind, held against the chapter's words as patterns
	parts := []func(n *api.Node, s string){
		func(n *api.Node, s string) { n.Verb = s },
		func(n *api.Node, s string) { n.Adv = s },
		func(n *api.Node, s string) { n.Name = s },
		func(n *api.Node, s string) { n.Nums = []string{s} },
		func(n *api.Node, s string) { n.Nums = append([]string{"1", "2"}, s, "3") },
	}
	for _, n := range []api.Node{lit("1"), name("a"), monad("-", ""), monad("{", "/"), monad("F", "`"), dyad("+", ""), dyad("{", "'"), dyad("F", "."), assign("a"), amend("a"), define("F"), index()} {
		mays(t, stood(n), true)
		for _, put := range parts {
			for _, s := range append(texts(), numbers()...) {
				turned := n
				put(&turned, s)
				mays(t, stood(turned), mayBe(turned))
			}
		}
		for b := range 256 { // and every byte
			for _, put := range parts {
				turned := n
				put(&turned, string([]byte{byte(b)}))
				mays(t, stood(turned), mayBe(turned))
			}
		}
	}
}

// numbers are texts that are some, and such as are nearly some.
func numbers() []string {
	return []string{"0", "1", "-1", "9", "10", "-10", nines(99), nines(100), "-" + nines(100), "1" + strings.Repeat("0", 99), nines(101), "-" + nines(101), "-0", "00", "01", "-01", "_1", "+1", "1.0", "1 ", " 1", "1\n", "--1", "1-", "0x1", "1e5", "１"}
}

func TestWrittenOut(t *testing.T) { // P8.2: each kind with a part as it may not be, without patterns
	for _, n := range []api.Node{
		// Lit
		lit(), lit(""), lit("a"), lit("01"), lit("_1"), lit("-0"), lit(nines(101)), lit("1", "2", "x"), lit("x", "1", "2"), lit("1", ""), lit(ones(101)...), lit(ones(200)...), lit(append(ones(99), "x")...),
		{Kind: 1, Nums: []string{"1"}, Name: "a"}, {Kind: 1, Nums: []string{"1"}, Verb: "+"}, {Kind: 1, Nums: []string{"1"}, Adv: "/"}, {Kind: 1, Nums: []string{"1"}, Verb: "{"}, {Kind: 1, Nums: []string{"1"}, Name: "1"}, {Kind: 1, Nums: []string{"1"}, Name: " "},
		// Name, Assign, Amend, Define
		name(""), name("F"), name("1"), name("+"), name("a b"), name(" a"), name("a "), name("aB"), name("a_"), name("{"), name("'"), name(":"),
		assign(""), assign("F"), assign("1"), assign("+"), assign("a b"), assign("a "), assign("{"), amend(""), amend("F"), amend("1"), amend("+"), amend("a b"), amend(" a"), amend("["),
		define(""), define("f"), define("1"), define("+"), define("{"), define("F G"), define("F "), define("f1"), define("1F"), define("'"),
		{Kind: 2, Name: "a", Verb: "+"}, {Kind: 2, Name: "a", Adv: "'"}, {Kind: 2, Name: "a", Nums: []string{"1"}}, {Kind: 2, Name: "a", Nums: []string{""}}, {Kind: 2, Name: "a", Verb: "{"}, {Kind: 2, Nums: []string{"1"}},
		{Kind: 5, Name: "a", Verb: "+"}, {Kind: 5, Name: "a", Verb: ":"}, {Kind: 5, Name: "a", Adv: "/"}, {Kind: 5, Name: "a", Nums: []string{"1"}}, {Kind: 6, Name: "a", Verb: "@"}, {Kind: 6, Name: "a", Adv: "/"}, {Kind: 6, Name: "a", Nums: []string{"1"}},
		{Kind: 7, Name: "F", Verb: "{"}, {Kind: 7, Name: "F", Verb: "F"}, {Kind: 7, Verb: "F"}, {Kind: 7, Name: "F", Adv: "'"}, {Kind: 7, Name: "F", Nums: []string{"1"}},
		// Monad, Dyad
		monad("", ""), monad("a", ""), monad("1", ""), monad("'", ""), monad("/", ""), monad("(", ""), monad("}", ""), monad("[", ""), monad(":", ""), monad("++", ""), monad("+ ", ""), monad("{{", ""), monad("{}", ""), monad("F G", ""), monad("", "/"), monad("+", "."), monad("{", "."), monad("F", "."), monad("+", "+"), monad("+", "//"), monad("+", "'/"), monad("+", " "), monad("+", "F"), monad("+", "{"), monad("+", "a"),
		dyad("", ""), dyad("a", ""), dyad("1", ""), dyad(".", ""), dyad("'", ""), dyad(")", ""), dyad("}", ""), dyad("]", ""), dyad(":", ""), dyad("--", ""), dyad(" +", ""), dyad("{{", ""), dyad("F,", ""), dyad("", "."), dyad("+", "/"), dyad("+", "\\"), dyad("+", "`"), dyad("{", "/"), dyad("F", "`"), dyad("+", "'."), dyad("+", ".."), dyad("+", "1"), dyad("+", "{"), dyad("+", " "),
		{Kind: 3, Verb: "+", Name: "a"}, {Kind: 3, Verb: "+", Nums: []string{"1"}}, {Kind: 3, Verb: "{", Name: "F"}, {Kind: 3, Verb: "{", Nums: []string{"1"}}, {Kind: 3, Name: "F"}, {Kind: 4, Verb: "+", Name: "a"}, {Kind: 4, Verb: "+", Nums: []string{"1"}}, {Kind: 4, Verb: "{", Name: "F"}, {Kind: 4, Name: "F"},
		// Index
		{Kind: 8, Verb: "@"}, {Kind: 8, Verb: "{"}, {Kind: 8, Adv: "'"}, {Kind: 8, Name: "a"}, {Kind: 8, Nums: []string{"1"}}, {Kind: 8, Nums: []string{""}},
		// none
		{}, {Kind: -1}, {Kind: 9}, {Kind: 9, Name: "a"}, {Nums: []string{"1"}}, {Kind: math.MinInt, Nums: []string{"1"}}, {Kind: math.MaxInt, Name: "a"},
	} {
		mays(t, stood(n), false)
		for _, l := range [][]api.Node{row(list(monad("-", "")), stood(n)), row(list(dyad("+", "")), stood(n), list(lit("1"))), row(list(dyad("+", ""), lit("1")), stood(n)), row(list(assign("a")), stood(n)), row(list(amend("a")), list(lit("0")), stood(n)), row(list(define("F")), stood(n)), row(list(monad("{", "")), stood(n), list(lit("1")))} {
			mays(t, l, false)
		}
	}
}

func TestAdverbs(t *testing.T) { // P8.2: each at a Monad and at a Dyad, of each verb
	for _, c := range []struct {
		adv             string
		atMonad, atDyad bool
	}{{"", true, true}, {"'", true, true}, {"/", true, false}, {"\\", true, false}, {"`", true, false}, {".", false, true}} {
		for _, verb := range append(append(strings.Split(signs, ""), "{"), verbs()...) {
			mays(t, stood(monad(verb, c.adv)), c.atMonad)
			mays(t, stood(dyad(verb, c.adv)), c.atDyad)
		}
	}
}

func TestEmptyNums(t *testing.T) { // P8.2, R2: nil and empty are the same where there are to be none
	for _, n := range []api.Node{name("a"), monad("-", ""), dyad("+", ""), assign("a"), amend("a"), define("F"), index()} {
		n.Nums = []string{}
		mays(t, stood(n), true)
		n.Nums = make([]string, 0, 3)
		mays(t, stood(n), true)
	}
	mays(t, list(api.Node{Kind: 1, Nums: []string{}}), false)
}

func TestLitsOfManyNumbers(t *testing.T) { // P8.2: 1 to 100
	for many, want := range map[int]bool{0: false, 1: true, 2: true, 50: true, 99: true, 100: true, 101: false, 102: false, 128: false, 256: false, 257: false, 356: false, 100000: false} {
		mays(t, list(lit(ones(many)...)), want)
		for _, at := range []int{0, many / 2, many - 1} {
			if at < 0 || at >= many {
				continue
			}
			l := ones(many)
			l[at] = "x"
			mays(t, list(lit(l...)), false)
			l[at] = "-" + nines(100)
			mays(t, list(lit(l...)), want)
		}
	}
	for _, s := range numbers() {
		mays(t, list(lit(s)), num.May(s))
	}
}

func TestHeads(t *testing.T) { // P8.2: Assign, Amend and Define at the head alone
	for _, n := range []api.Node{assign("a"), amend("a"), define("F")} {
		mays(t, stood(n), true)
		for _, head := range []api.Node{monad("-", ""), monad("{", ""), dyad("+", ""), dyad("{", ""), index(), assign("b"), amend("b"), define("G")} {
			mays(t, stood(head), true)
			kids, _ := kidsOf(head)
			for at := range kids {
				below := slices.Repeat([][]api.Node{list(name("x"))}, kids)
				below[at] = stood(n)
				l := row(list(head), row(below...))
				mays(t, l, false)
				mays(t, row(list(monad("-", "")), l), false)
				below[at] = row(list(monad("-", "")), stood(n))
				mays(t, row(list(head), row(below...)), false)
			}
		}
	}
}

func TestOneTree(t *testing.T) { // P8.2: neither less nor more
	for _, n := range nodes() {
		l := stood(n)
		mays(t, l, true)
		for cut := range len(l) {
			mays(t, l[:cut], false)
		}
		mays(t, append(slices.Clone(l), lit("1")), false)
		mays(t, append(slices.Clone(l), name("x")), false)
		mays(t, append(slices.Clone(l), api.Node{}), false)
		mays(t, row(l, l), false)
	}
}

func TestDepthsThatMayBe(t *testing.T) { // P8.2: 40 at most
	for _, c := range chains() {
		for levels := 1; levels < 60; levels++ {
			l := c.deep(levels)
			mays(t, l, grown(l, 0).depth() <= 40)
		}
	}
	monads := func(levels int) []api.Node { return chains()[0].deep(levels) }
	mays(t, monads(39), true)
	mays(t, monads(40), true)
	mays(t, monads(41), false)
	mays(t, row(list(assign("a")), monads(39)), true)
	mays(t, row(list(assign("a")), monads(40)), false)
	mays(t, row(list(define("F")), monads(39)), true)
	mays(t, row(list(define("F")), monads(40)), false)
	for _, levels := range []int{38, 39, 40} { // below each place
		want := levels < 40
		mays(t, row(list(amend("a"), lit("1")), monads(levels)), want)
		mays(t, row(list(amend("a")), monads(levels), list(lit("1"))), want)
		mays(t, row(list(dyad("{", "")), monads(levels), list(lit("1"), lit("2"))), want)
		mays(t, row(list(dyad("{", ""), lit("1")), monads(levels), list(lit("2"))), want)
		mays(t, row(list(dyad("{", ""), lit("1"), lit("2")), monads(levels)), want)
		mays(t, row(list(index()), monads(levels), monads(2)), want)
	}
}

func TestMayOfAll(t *testing.T) { // P8.2: trees that may be, and such with one thing turned, and any lists
	r := random(3)
	told := map[bool]int{}
	for range 6000 {
		l := r.line(1 + r.below(8))
		mays(t, l, true)
		spoilt := r.spoilt(l)
		mays(t, spoilt, may(spoilt))
		told[may(spoilt)]++
		loose := r.loose()
		mays(t, loose, may(loose))
		told[may(loose)]++
	}
	if told[true] < 500 || told[false] < 5000 {
		t.Errorf("too few of a kind: %v", told)
	}
	for range 1000 {
		levels := 30 + r.below(15)
		l := r.thin(levels)
		mays(t, l, levels <= 40)
		mays(t, row(list(assign("a")), l), levels <= 39)
	}
}

func TestNode(t *testing.T) { // P8.2: the head, and behind it all others in turn, whatever they are
	one, x, none := list(lit("1")), list(name("x")), list(api.Node{Kind: 9, Verb: "{", Nums: []string{"y", ""}})
	two := list(monad("-", ""), lit("3", "4"))
	for _, c := range []struct {
		n    api.Node
		kids [][]api.Node
		want []api.Node
	}{
		{lit("1"), nil, one}, {lit("1"), [][]api.Node{}, one}, {lit(), nil, list(lit())}, {api.Node{}, nil, list(api.Node{})},
		{monad("-", ""), [][]api.Node{x}, list(monad("-", ""), name("x"))}, {monad("-", "/"), [][]api.Node{two}, list(monad("-", "/"), monad("-", ""), lit("3", "4"))},
		{dyad("+", ""), [][]api.Node{one, x}, list(dyad("+", ""), lit("1"), name("x"))}, {dyad("+", ""), [][]api.Node{x, one}, list(dyad("+", ""), name("x"), lit("1"))}, {dyad("{", "."), [][]api.Node{two, x, two}, list(dyad("{", "."), monad("-", ""), lit("3", "4"), name("x"), monad("-", ""), lit("3", "4"))},
		// what isn't a tree, as many as it doesn't have below, and what has no node
		{monad("-", ""), nil, list(monad("-", ""))}, {name("a"), [][]api.Node{one, one, one}, list(name("a"), lit("1"), lit("1"), lit("1"))}, {lit("1"), [][]api.Node{nil}, one}, {lit("1"), [][]api.Node{nil, {}, nil}, one}, {index(), [][]api.Node{nil, x, {}, two, nil}, list(index(), name("x"), monad("-", ""), lit("3", "4"))},
		{none[0], [][]api.Node{none, two[:1], two[1:]}, list(none[0], none[0], two[0], two[1])}, {assign("a"), [][]api.Node{list(assign("b"), define("F"))}, list(assign("a"), assign("b"), define("F"))},
		{index(), slices.Repeat([][]api.Node{two}, 1000), row(list(index()), slices.Repeat(two, 1000))},
	} {
		kept := apart(row(c.kids...))
		got := tree.Node(c.n, c.kids...)
		if !equal(got, c.want) {
			t.Errorf("Node(%v, %.300v): %.300v", c.n, c.kids, got)
		}
		if !equal(row(c.kids...), kept) { // R3
			t.Errorf("Node(%v) made %.300v of %.300v", c.n, c.kids, kept)
		}
	}
	if got := tree.Node(index(), x, one); !equal(got, list(index(), name("x"), lit("1"))) {
		t.Errorf("told one by one: %v", got)
	}
}

func TestNodeSharesNothing(t *testing.T) { // P8.2, R3: neither with what is handed in, nor within
	nums := []string{"1", "2", "3", "4"}
	kid := make([]api.Node, 2, 9)
	kid[0], kid[1] = lit(nums[:2]...), lit(nums...)
	head := api.Node{Kind: 9, Nums: nums[:3]}
	got := tree.Node(head, kid, kid[:1])
	want := list(api.Node{Kind: 9, Nums: []string{"1", "2", "3"}}, lit("1", "2"), lit("1", "2", "3", "4"), lit("1", "2"))
	if !equal(got, want) {
		t.Fatalf("%v", got)
	}
	nums[0], nums[3], kid[0].Name, kid[1] = "x", "x", "x", api.Node{}
	if !equal(got, want) {
		t.Errorf("turned from without: %v", got)
	}
	kept := row(list(head), kid[:3])
	for i := range got {
		for j := range got[i].Nums {
			got[i].Nums[j] = "y"
		}
		got[i].Nums = append(got[i].Nums, "z")
		got[i].Verb = "y"
	}
	_ = append(got, lit("9"))
	if !slices.Equal(nums, []string{"x", "2", "3", "x"}) || !equal(row(list(head), kid[:3]), kept) {
		t.Errorf("turned from within: %v, %v", nums, kid[:3])
	}
	again := tree.Node(lit("1", "2"), list(lit("1", "2")), list(lit("1", "2")))
	for i := range again {
		for j := range again {
			again[j].Nums = append(again[j].Nums[:1], "2")
		}
		again[i].Nums[0] = "7"
		again[i].Nums = append(again[i].Nums[:1], "8", "9")
		for j := range again {
			if j > i && !slices.Equal(again[j].Nums, []string{"1", "2"}) {
				t.Errorf("node %d was turned with node %d: %v", j, i, again)
			}
		}
	}
}

func TestNodeOfAListWithRoom(t *testing.T) { // R3: what stands behind the end of what is handed in stays
	room := list(lit("1"), name("a"), name("b"), name("c"))
	kids := [][]api.Node{room[:1], room[1:2], room[2:3]}
	got := tree.Node(index(), kids[:2]...)
	if !equal(got, list(index(), lit("1"), name("a"))) || !equal(room, list(lit("1"), name("a"), name("b"), name("c"))) || !equal(kids[2], list(name("b"))) {
		t.Errorf("%v, and %v then", got, room)
	}
}

func TestSame(t *testing.T) { // P8.2
	base := list(dyad("+", "'"), lit("1", "2"), name("a"))
	turned := func(at int, turn func(n *api.Node)) []api.Node {
		l := apart(base)
		turn(&l[at])
		return l
	}
	for _, l := range [][]api.Node{base, apart(base), base[:2], nil, {}, list(api.Node{}), list(api.Node{Kind: -5, Verb: "x", Adv: "y", Name: "z", Nums: []string{"", "q"}})} {
		if !tree.Same(l, l) || !tree.Same(l, apart(l)) {
			t.Errorf("%v isn't itself", l)
		}
	}
	for i, other := range [][]api.Node{
		nil, base[:1], base[:2], base[1:], append(apart(base), name("a")), append(apart(base), api.Node{}), row(base, base), row(base[:1], base[2:], base[1:2]), row(base[1:2], base[:1], base[2:]),
		turned(0, func(n *api.Node) { n.Kind = 3 }), turned(0, func(n *api.Node) { n.Kind = -4 }), turned(0, func(n *api.Node) { n.Verb = "-" }), turned(0, func(n *api.Node) { n.Verb = "" }), turned(0, func(n *api.Node) { n.Adv = "" }), turned(0, func(n *api.Node) { n.Adv = "." }), turned(0, func(n *api.Node) { n.Name = "x" }), turned(0, func(n *api.Node) { n.Nums = []string{"1"} }), turned(0, func(n *api.Node) { n.Nums = []string{""} }), turned(0, func(n *api.Node) { n.Verb, n.Adv = n.Adv, n.Verb }), turned(0, func(n *api.Node) { n.Verb, n.Name = "", n.Verb }),
		turned(1, func(n *api.Node) { n.Nums[0] = "2" }), turned(1, func(n *api.Node) { n.Nums[1] = "3" }), turned(1, func(n *api.Node) { n.Nums = n.Nums[:1] }), turned(1, func(n *api.Node) { n.Nums = n.Nums[1:] }), turned(1, func(n *api.Node) { n.Nums = nil }), turned(1, func(n *api.Node) { n.Nums = append(n.Nums, "3") }), turned(1, func(n *api.Node) { n.Nums = append(n.Nums, "") }), turned(1, func(n *api.Node) { slices.Reverse(n.Nums) }), turned(1, func(n *api.Node) { n.Nums = []string{"12"} }), turned(1, func(n *api.Node) { n.Nums = []string{"1 2"} }), turned(1, func(n *api.Node) { n.Nums = []string{"01", "2"} }), turned(1, func(n *api.Node) { n.Kind = 2 }),
		turned(2, func(n *api.Node) { n.Name = "b" }), turned(2, func(n *api.Node) { n.Name = "" }), turned(2, func(n *api.Node) { n.Name = "ab" }), turned(2, func(n *api.Node) { n.Name = "A" }), turned(2, func(n *api.Node) { n.Kind = 5 }), turned(2, func(n *api.Node) { n.Verb = "+" }), turned(2, func(n *api.Node) { n.Adv = "+" }), turned(2, func(n *api.Node) { n.Nums = []string{"1"} }),
	} {
		if tree.Same(base, other) || tree.Same(other, base) {
			t.Errorf("%d: %v is %v", i, other, base)
		}
	}
	if l := turned(0, func(n *api.Node) { n.Nums = []string{} }); !tree.Same(l, base) || !tree.Same(base, l) { // R2
		t.Error("no Nums, and empty ones")
	}
}

func TestSameOfAll(t *testing.T) { // P8.2, R5: of any nodes
	r := random(5)
	for range 10000 {
		a := r.loose()
		b := apart(a)
		if !tree.Same(a, b) {
			t.Errorf("%v isn't itself", a)
		}
		if len(a) > 0 {
			b = r.spoilt(a)
		}
		if got := tree.Same(a, b); got != equal(a, b) || tree.Same(b, a) != got {
			t.Errorf("Same(%v, %v): %v", a, b, got)
		}
	}
}

// parted are a tree's head, and those below it.
func parted(l []api.Node) (api.Node, [][]api.Node) {
	var kids [][]api.Node
	for _, at := range tree.Under(l, 0) {
		end, _ := tree.End(l, at)
		kids = append(kids, l[at:end])
	}
	return l[0], kids
}

// rebuilt is a tree that is put together again, each below it, too.
func rebuilt(l []api.Node) []api.Node {
	n, kids := parted(l)
	for i := range kids {
		kids[i] = rebuilt(kids[i])
	}
	return tree.Node(n, kids...)
}

// again holds a tree against its head, and those below it, put together again.
func again(t *testing.T, l []api.Node) {
	t.Helper()
	n, kids := parted(l)
	if got := tree.Node(n, kids...); !equal(got, l) || !tree.Same(got, l) || tree.May(got) != tree.May(l) {
		t.Errorf("%v, put together again: %v", l, got)
	}
	if got := rebuilt(l); !equal(got, l) {
		t.Errorf("%v, put together again, with all below: %v", l, got)
	}
	if len(kids) != tree.Kids(n) {
		t.Errorf("%v: %d below", l, len(kids))
	}
	deepest := 0
	for _, kid := range kids {
		deepest = max(deepest, tree.Depth(kid))
	}
	if tree.Depth(l) != 1+deepest {
		t.Errorf("%v: %d deep, and those below %d", l, tree.Depth(l), deepest)
	}
}

func TestPutTogetherAgain(t *testing.T) { // P8.3
	for _, s := range samples() {
		for i, end := range s.ends {
			if end > 0 {
				again(t, s.l[i:end])
			}
		}
	}
	for _, c := range chains() {
		for _, levels := range []int{1, 2, 3, 10, 40, 41} {
			again(t, c.deep(levels))
		}
	}
	r := random(7)
	for range 3000 {
		again(t, r.line(7))
		l := r.loose() // trees of nodes that may not be, too
		if end, ok := tree.End(l, 0); ok {
			again(t, l[:end])
		}
	}
}

func TestWhatIsHandedInStays(t *testing.T) { // R3: no call turns it, nor what is behind its end
	r := random(9)
	for range 500 {
		l := row(r.line(5), r.loose())
		kept := apart(l)
		part := l[:r.below(len(l)+1)]
		for i := -1; i <= len(l); i++ {
			tree.End(part, i)
			tree.Under(part, i)
		}
		tree.Depth(part)
		tree.May(part)
		tree.Same(part, l)
		tree.Node(l[0], part, part)
		for _, n := range l {
			tree.Kids(n)
		}
		if !equal(l, kept) {
			t.Errorf("%v is %v then", kept, l)
		}
	}
}

func TestUnderSharesNothing(t *testing.T) { // R3, R4
	l := list(dyad("{", ""), name("x"), lit("1"), lit("2"))
	first := tree.Under(l, 0)
	second := tree.Under(l, 0)
	for i := range first {
		first[i] = -1
	}
	_ = append(first, 7)
	if !slices.Equal(second, []int{1, 2, 3}) {
		t.Errorf("%v", second)
	}
	under(t, l, 0, 1, 2, 3)
}

// answer is what all calls tell of a list, in figures.
type answer struct {
	kids, end, depth, under, made int
	ok, may, same                 bool
}

func asked(l, other []api.Node, i int) answer {
	a := answer{kids: 7, depth: tree.Depth(l), may: tree.May(l), same: tree.Same(l, other)}
	a.end, a.ok = tree.End(l, i)
	for _, at := range tree.Under(l, i) {
		a.under = a.under*31 + at
	}
	for _, n := range l {
		a.kids = a.kids*5 + tree.Kids(n)
	}
	for _, n := range tree.Node(index(), l, other) {
		a.made = a.made*31 + n.Kind + len(n.Verb) + len(n.Nums)
	}
	return a
}

func TestAnswersHangOnNothingElse(t *testing.T) { // R4, P1: asked again, the other way round, and side by side
	r := random(11)
	var l [][]api.Node
	for range 700 {
		l = append(l, r.line(6), r.loose())
	}
	ask := func(i int) answer { return asked(l[i], l[(i*7+3)%len(l)], i%5) }
	var got []answer
	for i := range l {
		got = append(got, ask(i))
	}
	var group sync.WaitGroup
	for range 4 {
		group.Go(func() {
			for i := len(l) - 1; i >= 0; i-- {
				if a := ask(i); a != got[i] {
					t.Errorf("%v: %v, and then %v", l[i], got[i], a)
				}
			}
		})
	}
	group.Wait()
}
