package tree_test

import (
	"regexp"
	"slices"
	"strings"

	"reredos/api"
)

// The bytes that chapter 7 lists, written out.
const (
	signs = "+-*%!&|<>=~,#^$?@"
	advs  = "'/\\.`"
	marks = "()[]{}:"
)

func nines(n int) string { return strings.Repeat("9", n) }

// ones are n numbers.
func ones(n int) []string { return slices.Repeat([]string{"1"}, n) }

// Nodes, written short.
func lit(nums ...string) api.Node     { return api.Node{Kind: 1, Nums: nums} }
func name(s string) api.Node          { return api.Node{Kind: 2, Name: s} }
func monad(verb, adv string) api.Node { return api.Node{Kind: 3, Verb: verb, Adv: adv} }
func dyad(verb, adv string) api.Node  { return api.Node{Kind: 4, Verb: verb, Adv: adv} }
func assign(s string) api.Node        { return api.Node{Kind: 5, Name: s} }
func amend(s string) api.Node         { return api.Node{Kind: 6, Name: s} }
func define(s string) api.Node        { return api.Node{Kind: 7, Name: s} }
func index() api.Node                 { return api.Node{Kind: 8} }

// list is a list of nodes as it stands in a row.
func list(l ...api.Node) []api.Node { return l }

// row is lists one behind the other, put together without what is tested.
func row(l ...[]api.Node) []api.Node { return slices.Concat(l...) }

// nodes are a node of each kind as it may be, in many ways.
func nodes() []api.Node {
	l := []api.Node{lit("0"), lit("1"), lit("-1"), lit("1", "2", "3"), lit(nines(100)), lit("-" + nines(100)), lit(ones(99)...), lit(ones(100)...), index()}
	for _, s := range words() {
		l = append(l, name(s), assign(s), amend(s))
	}
	for _, s := range verbs() {
		l = append(l, define(s), monad(s, ""), dyad(s, ""), monad(s, "/"), dyad(s, "'"))
	}
	for _, s := range append(strings.Split(signs, ""), "{", "F") {
		l = append(l, monad(s, ""), monad(s, "'"), monad(s, "/"), monad(s, "\\"), monad(s, "`"), dyad(s, ""), dyad(s, "'"), dyad(s, "."))
	}
	return l
}

func words() []string {
	return []string{"a", "z", "x", "ab", "a0", "a1b2", "z00", "abcdefghijklmnopqrstuvwxyz", "m0123456789", "w" + strings.Repeat("a", 255)}
}

func verbs() []string {
	return []string{"A", "Z", "F", "AB", "Ab", "A0", "F1a2B3", "ABCDEFGHIJKLMNOPQRSTUVWXYZ", "Mabcdefghijklmnopqrstuvwxyz", "V" + strings.Repeat("B", 255)}
}

// texts are of all sorts: parts of each kind, two parts, parts with blanks, parts of no line, and none.
func texts() []string {
	l := append(words(), verbs()...)
	l = append(l, strings.Split(signs+advs+marks, "")...)
	l = append(l, "", " ", "  ", "0", "1", "_1", "-1", "01", "12", "_", "__", "\"", ";", "\x00", "\xff", "é", "É", "٣", "\n", "\t", "a\n", "F\n", "+\n")
	l = append(l, " a", "a ", " a ", " F", "F ", " +", "+ ", " {", "{ ", " '", "' ", "a b", "aB", "a_b", "a.b", "a;", "1a", "_a", "é1", "aé", "Fé", "F G", "F_1", "F;", "1F", "++", "+-", "+/", "+'", "{}", "{{", "}{", "{x", "x{", "''", "'/", "/\\", "\\`", "'.", "./", "`'", "'/\\`", "()", "[]", "::", ":a", "a:")
	return append(l, "w"+strings.Repeat("a", 256), "V"+strings.Repeat("b", 256), strings.Repeat("+", 256), strings.Repeat(" ", 300))
}

// kinds are the eight, and some that are none.
func kinds() []int {
	return []int{-1 << 63, -1 << 40, -9, -8, -4, -3, -2, -1, 0, 1, 2, 3, 4, 5, 6, 7, 8, 9, 10, 11, 12, 16, 19, 128, 257, 1 << 32, 1<<32 + 3, 1<<63 - 1}
}

// kidsOf says the chapter's words once more: how many are below a node of each kind, and whether a { has one more.
func kidsOf(n api.Node) (int, bool) {
	of := map[int][2]int{1: {0, 0}, 2: {0, 0}, 3: {1, 1}, 4: {2, 1}, 5: {1, 0}, 6: {2, 0}, 7: {1, 0}, 8: {2, 0}}
	k, ok := of[n.Kind]
	if n.Verb == "{" {
		return k[0] + k[1], ok
	}
	return k[0], ok
}

// branch is a tree: where it begins and ends in a list, and those below it.
type branch struct {
	at, end int
	below   []*branch
}

// grown is the tree that begins at a place; nil, if there is none.
func grown(l []api.Node, i int) *branch {
	if i < 0 || i >= len(l) {
		return nil
	}
	kids, ok := kidsOf(l[i])
	if !ok {
		return nil
	}
	b := &branch{at: i, end: i + 1}
	for range kids {
		kid := grown(l, b.end)
		if kid == nil {
			return nil
		}
		b.below = append(b.below, kid)
		b.end = kid.end
	}
	return b
}

// depth is how deep a tree is; 0, if there is none.
func (b *branch) depth() int {
	if b == nil {
		return 0
	}
	deepest := 0
	for _, kid := range b.below {
		deepest = max(deepest, kid.depth())
	}
	return 1 + deepest
}

// begins are where the trees below begin.
func (b *branch) begins() []int {
	if b == nil {
		return nil
	}
	var l []int
	for _, kid := range b.below {
		l = append(l, kid.at)
	}
	return l
}

// like is a pattern of all of a text.
func like(pattern string) *regexp.Regexp { return regexp.MustCompile(`\A(?:` + pattern + `)\z`) }

// looks is how the texts of a node of a kind look, and whether there are numbers.
type looks struct {
	verb, adv, name *regexp.Regexp
	nums            bool
}

var (
	empty    = like(``)
	number   = like(`0|-?[1-9][0-9]{0,99}`)
	aWord    = like(`[a-z][a-z0-9]{0,255}`)
	aVerb    = like(`[A-Z][a-zA-Z0-9]{0,255}`)
	anyVerb  = like(`[-+*%!&|<>=~,#^$?@{]|[A-Z][a-zA-Z0-9]{0,255}`)
	monadAdv = like("['/\\\\`]?")
	dyadAdv  = like(`['.]?`)
	lookOf   = map[int]looks{
		1: {empty, empty, empty, true},
		2: {empty, empty, aWord, false},
		3: {anyVerb, monadAdv, empty, false},
		4: {anyVerb, dyadAdv, empty, false},
		5: {empty, empty, aWord, false},
		6: {empty, empty, aWord, false},
		7: {empty, empty, aVerb, false},
		8: {empty, empty, empty, false},
	}
)

// mayBe says the chapter's words of a node, as patterns.
func mayBe(n api.Node) bool {
	look, ok := lookOf[n.Kind]
	if !ok || look.nums != (len(n.Nums) > 0) || len(n.Nums) > 100 {
		return false
	}
	for _, s := range n.Nums {
		ok = ok && number.MatchString(s)
	}
	return ok && look.verb.MatchString(n.Verb) && look.adv.MatchString(n.Adv) && look.name.MatchString(n.Name)
}

// may is what May should tell.
func may(l []api.Node) bool {
	b := grown(l, 0)
	if b == nil || b.end != len(l) || b.depth() > 40 {
		return false
	}
	for i, n := range l {
		if !mayBe(n) || i > 0 && slices.Contains([]int{5, 6, 7}, n.Kind) {
			return false
		}
	}
	return true
}

// chain is a tree of so many levels, of some nodes, in turn, each of them the head of what is below: other leaves stand ahead, or behind.
type chain struct {
	what          string
	ahead, behind []api.Node // what stands ahead of the next level, the node itself first, and behind it
}

func chains() []chain {
	x := name("x")
	return []chain{
		{"monads", list(monad("-", "")), nil}, {"monads with an adverb", list(monad("F", "/")), nil},
		{"dyads, from the right", list(dyad("+", ""), x), nil}, {"dyads, from the left", list(dyad("+", "")), list(x)},
		{"indices, from the right", list(index(), x), nil}, {"indices, from the left", list(index()), list(x)},
		{"bodies of monads", list(monad("{", "'")), list(lit("1"))}, {"what monads of bodies are of", list(monad("{", ""), x), nil},
		{"bodies of dyads", list(dyad("{", ".")), list(x, x)}, {"what is left of bodies", list(dyad("{", ""), x), list(lit("7"))}, {"what is right of bodies", list(dyad("{", ""), x, lit("7")), nil},
		{"between deep ones", list(dyad("{", ""), monad("-", ""), x), list(index(), x, x)},
	}
}

// deep is a tree of a chain, of so many levels, if what stands beside each level is no deeper than what is below it.
func (c chain) deep(levels int) []api.Node {
	return row(slices.Repeat(c.ahead, levels-1), list(lit("1", "2")), slices.Repeat(c.behind, levels-1))
}

// random is a row of numbers that is the same each time.
type random uint64

func (r *random) below(n int) int {
	*r = *r*6364136223846793005 + 1442695040888963407
	return int(uint64(*r)>>33) % n
}

// one is one of some.
func one[T any](r *random, l []T) T { return l[r.below(len(l))] }

// node is one of any kind and parts, mostly none that may be.
func (r *random) node() api.Node {
	n := api.Node{Kind: one(r, kinds())}
	if r.below(2) == 0 {
		n.Verb = one(r, texts())
	}
	if r.below(2) == 0 {
		n.Adv = one(r, texts())
	}
	if r.below(2) == 0 {
		n.Name = one(r, texts())
	}
	for range r.below(3) {
		n.Nums = append(n.Nums, one(r, texts()))
	}
	return n
}

// loose are nodes in a row, as they come.
func (r *random) loose() []api.Node {
	var l []api.Node
	for range r.below(20) {
		if r.below(9) == 0 {
			l = append(l, r.node())
			continue
		}
		l = append(l, one(r, []api.Node{lit("1"), name("a"), lit("1", "2"), name("b"), name("c"), monad("-", ""), monad("{", ""), dyad("+", ""), dyad("{", "'"), index(), assign("a"), amend("b"), define("F")}))
	}
	return l
}

// tree is one that may be, of so many levels at most, without a head.
func (r *random) tree(levels int) []api.Node {
	if levels <= 1 || r.below(5) == 0 {
		return list(one(r, []api.Node{lit("0"), lit("-5", "6"), name("x"), name("a1")}))
	}
	verb := one(r, []string{"+", "-", "@", "F", "Gx1", "{", "{"})
	l := list(one(r, []api.Node{monad(verb, ""), monad(verb, one(r, []string{"'", "/", "\\", "`"})), dyad(verb, ""), dyad(verb, one(r, []string{"'", "."})), index()}))
	kids, _ := kidsOf(l[0])
	for range kids {
		l = append(l, r.tree(levels-1)...)
	}
	return l
}

// thin is a tree of just so many levels, one of those below each node deeper than all others.
func (r *random) thin(levels int) []api.Node {
	l := r.tree(min(levels, 3))
	for grown(l, 0).depth() < levels {
		head := one(r, []api.Node{monad("-", ""), monad("{", "/"), dyad("F", ""), dyad("{", "."), index()})
		kids, _ := kidsOf(head)
		below := slices.Repeat([][]api.Node{list(name("y"))}, kids)
		below[r.below(kids)] = l
		l = row(list(head), row(below...))
	}
	return l
}

// line is a tree that may be, with a head or without one.
func (r *random) line(levels int) []api.Node {
	switch r.below(5) {
	case 0:
		return row(list(assign("a")), r.tree(levels))
	case 1:
		return row(list(amend("b")), r.tree(levels), r.tree(levels))
	case 2:
		return row(list(define("F")), r.tree(levels))
	}
	return r.tree(levels)
}

// spoilt is a list with one of its nodes turned, left out, or doubled.
func (r *random) spoilt(l []api.Node) []api.Node {
	l = slices.Clone(l)
	at := r.below(len(l))
	switch r.below(8) {
	case 0:
		return slices.Delete(l, at, at+1)
	case 1:
		return slices.Insert(l, at, l[r.below(len(l))])
	case 2:
		l[at] = r.node()
	case 3:
		l[at].Verb = one(r, texts())
	case 4:
		l[at].Adv = one(r, texts())
	case 5:
		l[at].Name = one(r, texts())
	case 6:
		l[at].Nums = append(slices.Clone(l[at].Nums), one(r, texts()))
	default:
		l[at].Kind = one(r, kinds())
	}
	return l
}

// apart is a list of nodes with memory of its own.
func apart(l []api.Node) []api.Node {
	l = slices.Clone(l)
	for i := range l {
		l[i].Nums = slices.Clone(l[i].Nums)
	}
	return l
}

// equal tells whether two lists have the same nodes, in words of the library.
func equal(a, b []api.Node) bool {
	return slices.EqualFunc(a, b, func(n, m api.Node) bool {
		return n.Kind == m.Kind && slices.Equal([]string{n.Verb, n.Adv, n.Name}, []string{m.Verb, m.Adv, m.Name}) && slices.Equal(n.Nums, m.Nums)
	})
}
