package parse_test

import (
	"regexp"
	"slices"
	"strings"

	"reredos/api"
	"reredos/lex"
)

// The bytes that chapter 7 lists, written out.
const (
	signs = "+-*%!&|<>=~,#^$?@"
	advs  = "'/\\.`"
	marks = "()[]{}:"
)

func nines(n int) string { return strings.Repeat("9", n) }

// ones are n numbers.
func ones(n int) []string { return slices.Repeat([]string{"1"}, n) }

// Nodes, written short.
func lit(nums ...string) api.Node     { return api.Node{Kind: 1, Nums: nums} }
func name(s string) api.Node          { return api.Node{Kind: 2, Name: s} }
func monad(verb, adv string) api.Node { return api.Node{Kind: 3, Verb: verb, Adv: adv} }
func dyad(verb, adv string) api.Node  { return api.Node{Kind: 4, Verb: verb, Adv: adv} }
func assign(s string) api.Node        { return api.Node{Kind: 5, Name: s} }
func amend(s string) api.Node         { return api.Node{Kind: 6, Name: s} }
func define(s string) api.Node        { return api.Node{Kind: 7, Name: s} }
func index() api.Node                 { return api.Node{Kind: 8} }

// list is a list of nodes as it stands in a row.
func list(l ...api.Node) []api.Node { return l }

// row is lists one behind the other, put together without what is tested.
func row(l ...[]api.Node) []api.Node { return slices.Concat(l...) }

// equal tells whether two lists have the same nodes, in words of the library.
func equal(a, b []api.Node) bool {
	return slices.EqualFunc(a, b, func(n, m api.Node) bool {
		return n.Kind == m.Kind && slices.Equal([]string{n.Verb, n.Adv, n.Name}, []string{m.Verb, m.Adv, m.Name}) && slices.Equal(n.Nums, m.Nums)
	})
}

// apart is a list of nodes with memory of its own.
func apart(l []api.Node) []api.Node {
	l = slices.Clone(l)
	for i := range l {
		l[i].Nums = slices.Clone(l[i].Nums)
	}
	return l
}

// tok is a part, written short.
func tok(kind int, text string, at int) api.Tok { return api.Tok{Kind: kind, Text: text, At: at} }

// patterns are how the Text of each Kind of part looks.
var patterns = map[int]*regexp.Regexp{
	1: regexp.MustCompile(`\A(0|_?[1-9][0-9]{0,99})\z`),
	2: regexp.MustCompile(`\A[a-z][a-z0-9]{0,255}\z`),
	3: regexp.MustCompile(`\A[A-Z][a-zA-Z0-9]{0,255}\z`),
	4: regexp.MustCompile(`\A[-+*%!&|<>=~,#^$?@]\z`),
	5: regexp.MustCompile("\\A['/\\\\.`]\\z"),
	6: regexp.MustCompile(`\A[()\[\]{}:]\z`),
}

// toks are the texts of a list as parts, one at each place from 0 on, ten apart. Those that are none have the Kind 0.
func toks(texts ...string) []api.Tok {
	l := make([]api.Tok, len(texts))
	for i, s := range texts {
		l[i] = tok(0, s, 10*i)
		for kind, p := range patterns {
			if p.MatchString(s) {
				l[i].Kind = kind
			}
		}
	}
	return l
}

// reading is a tree that some parts mean, and the place behind them.
type reading struct {
	l   []api.Node
	end int
}

// grammar says the chapter's grammar once more: what each of its names may be from a place on, in all ways that there are, however it goes on behind.
type grammar struct {
	parts []api.Tok
	far   int // the last part that was asked for
	exprs map[int][]reading
	terms map[int][]reading
}

// is tells whether a part is of a Kind, and one of some texts, if there are any.
func (g *grammar) is(i, kind int, texts ...string) bool {
	g.far = max(g.far, i)
	if i >= len(g.parts) || g.parts[i].Kind != kind || !patterns[kind].MatchString(g.parts[i].Text) {
		return false
	}
	return len(texts) == 0 || slices.Contains(texts, g.parts[i].Text)
}

// between are what stands between two Marks, behind the second one.
func (g *grammar) between(i int, open, end string) []reading {
	if !g.is(i, 6, open) {
		return nil
	}
	var all []reading
	for _, r := range g.expr(i + 1) {
		if g.is(r.end, 6, end) {
			all = append(all, reading{r.l, r.end + 1})
		}
	}
	return all
}

// verb are the node of a verb, with its Adv or without one, and the body behind it.
func (g *grammar) verb(i, kind int, advs ...string) []reading {
	var all []reading
	if g.is(i, 4) || g.is(i, 3) {
		all = append(all, reading{list(api.Node{Kind: kind, Verb: g.parts[i].Text}), i + 1})
	}
	for _, body := range g.between(i, "{", "}") {
		all = append(all, reading{row(list(api.Node{Kind: kind, Verb: "{"}), body.l), body.end})
	}
	for _, r := range slices.Clone(all) {
		if g.is(r.end, 5, advs...) {
			with := slices.Clone(r.l)
			with[0].Adv = g.parts[r.end].Text
			all = append(all, reading{with, r.end + 1})
		}
	}
	return all
}

func (g *grammar) expr(i int) []reading {
	if all, ok := g.exprs[i]; ok {
		return all
	}
	var all []reading
	for _, verb := range g.verb(i, 3, "'", "/", "\\", "`") {
		for _, of := range g.expr(verb.end) {
			all = append(all, reading{row(verb.l, of.l), of.end})
		}
	}
	for _, left := range g.term(i) {
		all = append(all, left)
		for _, verb := range g.verb(left.end, 4, "'", ".") {
			for _, right := range g.expr(verb.end) {
				all = append(all, reading{row(verb.l, left.l, right.l), right.end})
			}
		}
	}
	g.exprs[i] = all
	return all
}

func (g *grammar) term(i int) []reading {
	if all, ok := g.terms[i]; ok {
		return all
	}
	all := g.between(i, "(", ")")
	var nums []string
	for at := i; len(nums) < 100 && g.is(at, 1); at++ {
		nums = append(nums, strings.Replace(g.parts[at].Text, "_", "-", 1))
		all = append(all, reading{list(lit(slices.Clone(nums)...)), at + 1})
	}
	if g.is(i, 2) {
		all = append(all, reading{list(name(g.parts[i].Text)), i + 1})
	}
	for k := 0; k < len(all); k++ { // from the left on: what has one pair of brackets may have one more
		for _, by := range g.between(all[k].end, "[", "]") {
			all = append(all, reading{row(list(index()), all[k].l, by.l), by.end})
		}
	}
	g.terms[i] = all
	return all
}

func (g *grammar) line() []reading {
	all := slices.Clone(g.expr(0))
	if g.is(0, 2) && g.is(1, 6, ":") {
		for _, of := range g.expr(2) {
			all = append(all, reading{row(list(assign(g.parts[0].Text)), of.l), of.end})
		}
	}
	if g.is(0, 2) {
		for _, where := range g.between(1, "[", "]") {
			if g.is(where.end, 6, ":") {
				for _, what := range g.expr(where.end + 1) {
					all = append(all, reading{row(list(amend(g.parts[0].Text)), where.l, what.l), what.end})
				}
			}
		}
	}
	if g.is(0, 3) && g.is(1, 6, ":") {
		for _, body := range g.between(2, "{", "}") {
			all = append(all, reading{row(list(define(g.parts[0].Text)), body.l), body.end})
		}
	}
	return all
}

// depth is how deep the tree at a list's head is, and how many nodes it has.
func depth(l []api.Node) (levels, many int) {
	kids := map[int]int{1: 0, 2: 0, 3: 1, 4: 2, 5: 1, 6: 2, 7: 1, 8: 2}[l[0].Kind]
	if l[0].Verb == "{" {
		kids++
	}
	many = 1
	for range kids {
		below, more := depth(l[many:])
		levels, many = max(levels, below), many+more
	}
	return levels + 1, many
}

// answer is what a call tells.
type answer struct {
	l   []api.Node
	at  int
	err api.Errno
}

func (a answer) same(b answer) bool { return equal(a.l, b.l) && a.at == b.at && a.err == b.err }

// meant is what Toks should tell, and how many trees the grammar has for it.
func meant(l []api.Tok, end int) (answer, int) {
	g := grammar{parts: l, exprs: map[int][]reading{}, terms: map[int][]reading{}}
	var whole [][]api.Node
	for _, r := range g.line() {
		if r.end == len(l) {
			whole = append(whole, r.l)
		}
		g.far = max(g.far, r.end) // where the end is asked for
	}
	if len(whole) == 0 {
		if g.far < len(l) {
			end = l[g.far].At
		}
		return answer{nil, end, api.ErrForm}, 0
	}
	if levels, _ := depth(whole[0]); levels > 40 {
		return answer{nil, 0, api.ErrDeep}, len(whole)
	}
	return answer{whole[0], 0, api.OK}, len(whole)
}

// parsed is what Parse should tell.
func parsed(s string) answer {
	l, at, err := lex.Lex(s)
	if err != api.OK {
		return answer{nil, at, err}
	}
	a, _ := meant(l, len(s))
	return a
}

// random is a row of numbers that is the same each time.
type random uint64

func (r *random) below(n int) int {
	*r = *r*6364136223846793005 + 1442695040888963407
	return int(uint64(*r)>>33) % n
}

// one is one of some.
func one[T any](r *random, l []T) T { return l[r.below(len(l))] }

// written is a tree, and the texts of parts that mean it.
type written struct {
	l     []api.Node
	parts []string
}

// put is a written tree of a head, and those below it.
func put(n api.Node, parts []string, below ...written) written {
	w := written{list(n), parts}
	for _, kid := range below {
		w.l = append(w.l, kid.l...)
	}
	return w
}

// term is one that a term means, of so many levels at most.
func (r *random) term(levels int) written {
	switch pick := r.below(8); {
	case levels > 1 && pick < 2:
		return r.inParentheses(r.expr(levels))
	case levels > 1 && pick < 4:
		what, by := r.term(levels-1), r.expr(levels-1)
		return put(index(), slices.Concat(what.parts, []string{"["}, by.parts, []string{"]"}), what, by)
	case pick < 6:
		s := one(r, []string{"x", "y", "a1", "in", "z"})
		return put(name(s), []string{s})
	}
	var nums, parts []string
	for range 1 + r.below(3) {
		n := one(r, []string{"0", "7", "-1", "-42", nines(30)})
		nums, parts = append(nums, n), append(parts, strings.Replace(n, "-", "_", 1))
	}
	return put(lit(nums...), parts)
}

func (r *random) inParentheses(w written) written {
	return written{w.l, slices.Concat([]string{"("}, w.parts, []string{")"})}
}

// expr is one that an expr means, of so many levels at most.
func (r *random) expr(levels int) written {
	if levels <= 1 || r.below(4) == 0 {
		return r.term(levels)
	}
	n, of := api.Node{Kind: 3 + r.below(2), Verb: one(r, []string{"+", "-", "@", "~", "F", "Gx1", "{", "{"})}, []written{}
	parts := []string{n.Verb}
	if n.Verb == "{" {
		body := r.expr(levels - 1)
		of, parts = append(of, body), slices.Concat(parts, body.parts, []string{"}"})
	}
	if n.Kind == 4 {
		left := r.term(levels - 1)
		of, parts = append(of, left), slices.Concat(left.parts, parts)
	}
	if r.below(2) == 0 {
		n.Adv = one(r, map[int][]string{3: {"'", "/", "\\", "`"}, 4: {"'", "."}}[n.Kind])
		parts = append(parts, n.Adv)
	}
	right := r.expr(levels - 1)
	return put(n, slices.Concat(parts, right.parts), append(of, right)...)
}

// line is one of any of the four forms, of so many levels at most.
func (r *random) line(levels int) written {
	what := r.expr(levels)
	switch r.below(6) {
	case 0:
		return put(assign("a"), slices.Concat([]string{"a", ":"}, what.parts), what)
	case 1:
		where := r.expr(levels)
		return put(amend("b"), slices.Concat([]string{"b", "["}, where.parts, []string{"]", ":"}, what.parts), where, what)
	case 2:
		return put(define("F"), slices.Concat([]string{"F", ":", "{"}, what.parts, []string{"}"}), what)
	}
	return what
}

// alone are texts of parts of each Kind.
func alone() []string {
	l := append(strings.Split(signs+advs+marks, ""), "0", "1", "10", "_1", "_10", nines(100), "_"+nines(100))
	return append(l, "a", "z", "x", "ab", "a0", "a1b2", "z00", "A", "Z", "F", "AB", "Ab", "A0", "F1a2B3")
}

// spoilt is a row of parts with one turned, left out, doubled, or put ahead of another one.
func (r *random) spoilt(parts []string) []string {
	parts = slices.Clone(parts)
	at := r.below(len(parts))
	switch r.below(4) {
	case 0:
		return slices.Delete(parts, at, at+1)
	case 1:
		return slices.Insert(parts, at, one(r, parts))
	case 2:
		return slices.Insert(parts, at, one(r, alone()))
	}
	parts[at] = one(r, alone())
	return parts
}

// joined is parts as a line, with as few blanks as there may be between them, and some more now and then.
func (r *random) joined(parts []string, many int) string {
	s := ""
	for _, p := range parts {
		s += strings.Repeat(" ", r.below(many+1))
		if s != "" && glues(s[len(s)-1]) && glues(p[0]) {
			s += " "
		}
		s += p
	}
	return s + strings.Repeat(" ", r.below(many+1))
}

// glues tells of a byte whether a part that ends with it may go on with another such byte.
func glues(c byte) bool {
	return c == '_' || '0' <= c && c <= '9' || 'a' <= c && c <= 'z' || 'A' <= c && c <= 'Z'
}
