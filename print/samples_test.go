package print_test

import (
	"fmt"
	"slices"
	"strings"

	"reredos/api"
	"reredos/lex"
)

// The bytes that chapter 7 lists, written out.
const (
	signs = "+-*%!&|<>=~,#^$?@"
	advs  = "'/\\.`"
	marks = "()[]{}:"
)

func nines(n int) string { return strings.Repeat("9", n) }

// ones are n numbers.
func ones(n int) []string { return slices.Repeat([]string{"1"}, n) }

// Nodes, written short.
func lit(nums ...string) api.Node     { return api.Node{Kind: 1, Nums: nums} }
func name(s string) api.Node          { return api.Node{Kind: 2, Name: s} }
func monad(verb, adv string) api.Node { return api.Node{Kind: 3, Verb: verb, Adv: adv} }
func dyad(verb, adv string) api.Node  { return api.Node{Kind: 4, Verb: verb, Adv: adv} }
func assign(s string) api.Node        { return api.Node{Kind: 5, Name: s} }
func amend(s string) api.Node         { return api.Node{Kind: 6, Name: s} }
func define(s string) api.Node        { return api.Node{Kind: 7, Name: s} }
func index() api.Node                 { return api.Node{Kind: 8} }

// list is a list of nodes as it stands in a row.
func list(l ...api.Node) []api.Node { return l }

// row is lists one behind the other, put together without what is tested.
func row(l ...[]api.Node) []api.Node { return slices.Concat(l...) }

// equal tells whether two lists have the same nodes, in words of the library.
func equal(a, b []api.Node) bool {
	return slices.EqualFunc(a, b, func(n, m api.Node) bool {
		return n.Kind == m.Kind && slices.Equal([]string{n.Verb, n.Adv, n.Name}, []string{m.Verb, m.Adv, m.Name}) && slices.Equal(n.Nums, m.Nums)
	})
}

// apart is a list of nodes with memory of its own.
func apart(l []api.Node) []api.Node {
	l = slices.Clone(l)
	for i := range l {
		l[i].Nums = slices.Clone(l[i].Nums)
	}
	return l
}

// short is the begin of what is told of a fault, as there may be very many nodes.
func short(v any) string {
	return fmt.Sprintf("%.400s", fmt.Sprint(v))
}

// kidsOf says how many trees are below a node.
func kidsOf(n api.Node) int {
	kids := map[int]int{1: 0, 2: 0, 3: 1, 4: 2, 5: 1, 6: 2, 7: 1, 8: 2}[n.Kind]
	if n.Verb == "{" {
		kids++
	}
	return kids
}

// branch is a tree: its head, and those below it.
type branch struct {
	api.Node
	below []branch
}

// grown is the tree at a list's head, and what is behind it.
func grown(l []api.Node) (branch, []api.Node) {
	b, rest := branch{Node: l[0]}, l[1:]
	for range kidsOf(l[0]) {
		var kid branch
		kid, rest = grown(rest)
		b.below = append(b.below, kid)
	}
	return b, rest
}

// line says the chapter's words once more: for each Kind a row of what is printed, in which 0, 1 and 2 stand for the trees below, and ( for one that may be in parentheses.
func (b branch) line() string {
	var below []string
	for _, kid := range b.below {
		below = append(below, kid.line())
	}
	inside := func(i int) string {
		if b.below[i].Kind == 3 || b.below[i].Kind == 4 {
			return "(" + below[i] + ")"
		}
		return below[i]
	}
	verb, body := b.Verb+b.Adv, 0
	if b.Verb == "{" {
		verb, body = "{"+below[0]+"}"+b.Adv, 1
	} else if b.Verb != "" && 'A' <= b.Verb[0] && b.Verb[0] <= 'Z' {
		verb = " " + b.Verb + " " + b.Adv
	}
	switch b.Kind {
	case 1:
		return strings.ReplaceAll(strings.Join(b.Nums, " "), "-", "_")
	case 2:
		return b.Name
	case 3:
		return verb + below[body]
	case 4:
		return inside(body) + verb + below[body+1]
	case 5:
		return b.Name + ":" + below[0]
	case 6:
		return b.Name + "[" + below[0] + "]:" + below[1]
	case 7:
		return b.Name + ":{" + below[0] + "}"
	}
	return inside(0) + "[" + below[1] + "]"
}

// said is what should be printed of a tree that may be.
func said(l []api.Node) string {
	b, _ := grown(l)
	return b.line()
}

// blanksBetween are how many blanks there should be ahead of a part, or of the line's end, of a line's parts.
func blanksBetween(l []api.Tok, i int) int {
	isVerb := func(i int) bool {
		return i >= 0 && i < len(l) && l[i].Kind == lex.Verb && !(i == 0 && len(l) > 1 && l[1].Text == ":")
	}
	n := 0
	if isVerb(i - 1) {
		n++
	}
	if isVerb(i) || i > 0 && i < len(l) && l[i-1].Kind == lex.Num && l[i].Kind == lex.Num {
		n++
	}
	return n
}

// spread is parts as a line, with just the blanks that are told.
func spread(l []api.Tok) string {
	s := ""
	for i, part := range l {
		s += strings.Repeat(" ", blanksBetween(l, i)) + part.Text
	}
	return s + strings.Repeat(" ", blanksBetween(l, len(l)))
}

// random is a row of numbers that is the same each time.
type random uint64

func (r *random) below(n int) int {
	*r = *r*6364136223846793005 + 1442695040888963407
	return int(uint64(*r)>>33) % n
}

// one is one of some.
func one[T any](r *random, l []T) T { return l[r.below(len(l))] }

// verbs are one of each sort, and some more.
func verbs() []string {
	return append(strings.Split(signs, ""), "F", "Gx1", "AB", "Z9", "{", "{", "{", "{")
}

// monadAdvs and dyadAdvs are the Advs that may stand there, and none.
func monadAdvs() []string { return []string{"", "'", "/", "\\", "`"} }
func dyadAdvs() []string  { return []string{"", "'", "."} }

// tree is one that may be, of so many levels at most, without a head.
func (r *random) tree(levels int) []api.Node {
	if levels <= 1 || r.below(5) == 0 {
		return list(one(r, []api.Node{lit("0"), lit("-5", "6"), lit("1", "2", "-3"), lit("-" + nines(30)), name("x"), name("a1"), name("in")}))
	}
	verb := one(r, verbs())
	l := list(one(r, []api.Node{monad(verb, ""), monad(verb, one(r, monadAdvs())), dyad(verb, ""), dyad(verb, one(r, dyadAdvs())), index()}))
	for range kidsOf(l[0]) {
		l = append(l, r.tree(levels-1)...)
	}
	return l
}

// line is a tree that may be, with a head or without one.
func (r *random) line(levels int) []api.Node {
	switch r.below(6) {
	case 0:
		return row(list(assign("a")), r.tree(levels))
	case 1:
		return row(list(amend("b")), r.tree(levels), r.tree(levels))
	case 2:
		return row(list(define("F")), r.tree(levels))
	}
	return r.tree(levels)
}

// texts are of all sorts: parts of each kind, two parts, parts with blanks, parts of no line, and none.
func texts() []string {
	l := append(strings.Split(signs+advs+marks, ""), "a", "x", "ab", "a0", "F", "AB", "Gx1", "", " ", "  ", "0", "1", "_1", "-1", "01", "12", "_", "__", "\"", ";", "\x00", "\xff", "é", "\n", "a\n", "F\n", "+\n")
	l = append(l, " a", "a ", " F", "F ", " +", "+ ", " {", "{ ", "' ", "a b", "aB", "a_b", "1a", "aé", "F G", "F_1", "++", "+/", "+'", "{}", "{{", "{x", "''", "'/", "'.", "()", "::", "a:")
	return append(l, "w"+strings.Repeat("a", 255), "w"+strings.Repeat("a", 256), "V"+strings.Repeat("b", 255), "V"+strings.Repeat("b", 256), nines(100), nines(101))
}

// kinds are the eight, and some that are none.
func kinds() []int {
	return []int{-1 << 63, -8, -3, -1, 0, 1, 2, 3, 4, 5, 6, 7, 8, 9, 10, 19, 128, 257, 1<<32 + 3, 1<<63 - 1}
}

// spoilt is a list with one of its nodes turned, left out, or doubled.
func (r *random) spoilt(l []api.Node) []api.Node {
	l = slices.Clone(l)
	at := r.below(len(l))
	switch r.below(7) {
	case 0:
		return slices.Delete(l, at, at+1)
	case 1:
		return slices.Insert(l, at, l[r.below(len(l))])
	case 2:
		l[at].Verb = one(r, texts())
	case 3:
		l[at].Adv = one(r, texts())
	case 4:
		l[at].Name = one(r, texts())
	case 5:
		l[at].Nums = append(slices.Clone(l[at].Nums), one(r, texts()))
	default:
		l[at].Kind = one(r, kinds())
	}
	return l
}

// loosely is a tree as a line with blanks, and with parentheses that aren't needed, as they come.
func (r *random) loosely(l []api.Node) string {
	b, _ := grown(l)
	return r.blank() + r.loose(b, b.Kind < 5 || b.Kind > 7) + r.blank()
}

func (r *random) blank() string { return strings.Repeat(" ", max(0, r.below(4)-1)) }

// within is some parts with blanks as they come between them.
func (r *random) within(parts ...string) string {
	s := ""
	for i, p := range parts {
		if i > 0 {
			s += r.blank()
		}
		s += p
	}
	return s
}

// loose is a branch as text; an expr may stand in more parentheses.
func (r *random) loose(b branch, expr bool) string {
	var below []string
	for i, kid := range b.below {
		text := r.loose(kid, true)
		left := b.Kind == 8 && i == 0 || b.Kind == 4 && i == len(b.below)-2
		if left && (kid.Kind == 3 || kid.Kind == 4) {
			text = r.within("(", text, ")")
		}
		below = append(below, text)
	}
	parts := r.parts(b, below)
	s := parts[0]
	for _, p := range parts[1:] { // two parts that would be one, apart
		s += r.blank()
		if s != "" && p != "" && glues(s[len(s)-1]) && glues(p[0]) {
			s += " "
		}
		s += p
	}
	for expr && r.below(6) == 0 {
		s = r.within("(", s, ")")
	}
	return s
}

// parts are a branch's, those below it as the texts that are there.
func (r *random) parts(b branch, below []string) []string {
	verb, last := []string{b.Verb, b.Adv}, len(below)-1
	if b.Verb == "{" {
		verb = []string{"{", below[0], "}", b.Adv}
	}
	switch b.Kind {
	case 1:
		var nums []string
		for _, n := range b.Nums {
			nums = append(nums, strings.Replace(n, "-", "_", 1))
		}
		return nums
	case 2:
		return []string{b.Name}
	case 3:
		return append(verb, below[last])
	case 4:
		return slices.Concat([]string{below[last-1]}, verb, []string{below[last]})
	case 5:
		return []string{b.Name, ":", below[0]}
	case 6:
		return []string{b.Name, "[", below[0], "]", ":", below[1]}
	case 7:
		return []string{b.Name, ":", "{", below[0], "}"}
	}
	return []string{below[0], "[", below[1], "]"}
}

// glues tells of a byte whether a part that ends with it may go on with another such byte.
func glues(c byte) bool {
	return c == '_' || '0' <= c && c <= '9' || 'a' <= c && c <= 'z' || 'A' <= c && c <= 'Z'
}
