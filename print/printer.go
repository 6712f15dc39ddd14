package print

import (
	"strings"

	"reredos/api"
	"reredos/lex"
	"reredos/tree"
)

// brace is the verb that a function's body is below.
const brace = "{"

// printer prints the trees of a list that may be. It calls itself for those below, which are of few levels then.
type printer struct {
	nodes []api.Node
	of    map[int]func(p printer, n api.Node, under []int) string // how a node of each Kind is printed, and the trees below it
}

// prints are how a node of each Kind is printed.
func prints() map[int]func(p printer, n api.Node, under []int) string {
	return map[int]func(p printer, n api.Node, under []int) string{
		api.Lit:    printer.lit,
		api.Name:   printer.name,
		api.Monad:  printer.monad,
		api.Dyad:   printer.dyad,
		api.Assign: printer.assign,
		api.Amend:  printer.amend,
		api.Define: printer.define,
		api.Index:  printer.index,
	}
}

// tree is the tree that begins at a place.
func (p printer) tree(i int) string {
	n := p.nodes[i]
	return p.of[n.Kind](p, n, tree.Under(p.nodes, i))
}

// term is the tree that begins at a place, so that a verb, or brackets, may stand behind it.
func (p printer) term(i int) string {
	switch p.nodes[i].Kind {
	case api.Monad, api.Dyad:
		return "(" + p.tree(i) + ")"
	}
	return p.tree(i)
}

// verb is a node's verb, with the body that begins at a place, if it is one of a body.
func (p printer) verb(n api.Node, body int) string {
	if n.Verb == brace {
		return "{" + p.tree(body) + "}" + n.Adv
	}
	if parts, _, _ := lex.Lex(n.Verb); parts[0].Kind == lex.Verb {
		return " " + n.Verb + " " + n.Adv
	}
	return n.Verb + n.Adv
}

func (p printer) lit(n api.Node, _ []int) string {
	parts := make([]string, len(n.Nums))
	for i, s := range n.Nums {
		parts[i], _ = lex.Literal(s)
	}
	return strings.Join(parts, " ")
}

func (p printer) name(n api.Node, _ []int) string {
	return n.Name
}

func (p printer) monad(n api.Node, under []int) string {
	of := under[len(under)-1] // behind the body, if there is one
	return p.verb(n, under[0]) + p.tree(of)
}

func (p printer) dyad(n api.Node, under []int) string {
	left, right := under[len(under)-2], under[len(under)-1]
	return p.term(left) + p.verb(n, under[0]) + p.tree(right)
}

func (p printer) assign(n api.Node, under []int) string {
	return n.Name + ":" + p.tree(under[0])
}

func (p printer) amend(n api.Node, under []int) string {
	return n.Name + "[" + p.tree(under[0]) + "]:" + p.tree(under[1])
}

func (p printer) define(n api.Node, under []int) string {
	return n.Name + ":{" + p.tree(under[0]) + "}"
}

func (p printer) index(_ api.Node, under []int) string {
	return p.term(under[0]) + "[" + p.tree(under[1]) + "]"
}
