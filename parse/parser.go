package parse

import (
	"strings"

	"reredos/api"
	"reredos/lex"
	"reredos/tree"
)

// The Marks.
const (
	parenthesis    = "("
	endParenthesis = ")"
	bracket        = "["
	endBracket     = "]"
	brace          = "{"
	endBrace       = "}"
	colon          = ":"
)

// The adverbs that a verb may have.
const (
	monadAdvs = "'/\\`"
	dyadAdvs  = "'."
)

// most is how many Nums may stand one behind the other.
const most = 100

// begun is a node whose last tree is missing: that up to a Mark, or all that is to the right.
type begun struct {
	node api.Node     // without a Kind of parentheses, as they are no node
	kids [][]api.Node // the trees below it that are there
	upTo string       // the Mark; empty of what ends with what it stands in
}

// parser goes through parts from the left on. It doesn't call itself, as parts may be of very many levels.
type parser struct {
	parts []api.Tok
	at    int        // the part that is next
	open  []begun    // what is begun, each in the one ahead of it
	term  []api.Node // the tree that ends ahead of the next part
	whole bool       // whether nothing goes on from here
	deep  bool       // whether there was a tree that is too deep: none is put together any more
}

// sound are parts, of which those whose Text is none of their Kind have neither.
func sound(l []api.Tok) []api.Tok {
	parts := make([]api.Tok, len(l))
	for i, part := range l {
		alone, _, _ := lex.Lex(part.Text)
		if len(alone) == 1 && alone[0].Kind == part.Kind && alone[0].Text == part.Text {
			parts[i] = part
		}
	}
	return parts
}

// line tells whether the parts are a line; term is its tree then, and else at is the first part with which no line goes on.
func (p *parser) line() bool {
	if !p.head() {
		return false
	}
	for p.toTerm() {
		if !p.fromTerm() {
			return p.at == len(p.parts) && len(p.open) == 0
		}
	}
	return false
}

// head goes over what a line begins with that is an Assign, an Amend, or a Define.
func (p *parser) head() bool {
	if len(p.parts) < 2 {
		return true
	}
	first, mark := p.parts[0], p.parts[1].Text
	switch {
	case first.Kind == lex.Word && mark == colon:
		p.at = 2
		p.begin(api.Node{Kind: api.Assign, Name: first.Text}, "")
	case first.Kind == lex.Word && mark == bracket: // whether it is an Index is seen behind the bracket's end
		p.at = 2
		p.begin(api.Node{Kind: api.Amend, Name: first.Text}, endBracket)
	case first.Kind == lex.Verb && mark == colon:
		p.at = 2
		if p.next().Text != brace {
			return false
		}
		p.at = 3
		p.begin(api.Node{Kind: api.Define, Name: first.Text}, endBrace)
	}
	return true
}

// toTerm goes on up to behind a term's begin: over the verbs, and the Marks, ahead of it.
func (p *parser) toTerm() bool {
	for {
		part := p.next()
		switch {
		case part.Kind == lex.Num:
			p.term = p.grow(api.Node{Kind: api.Lit, Nums: p.numbers()})
			return true
		case part.Kind == lex.Word:
			p.at++
			p.term = p.grow(api.Node{Kind: api.Name, Name: part.Text})
			return true
		case part.Text == parenthesis:
			p.at++
			p.begin(api.Node{}, endParenthesis)
		case isVerb(part):
			p.verb(api.Monad)
		default:
			return false
		}
	}
}

// fromTerm goes on behind a term up to where another one is missing; false, if it comes to a part behind which none is.
func (p *parser) fromTerm() bool {
	for !p.whole {
		part := p.next()
		switch {
		case part.Text == bracket:
			p.at++
			p.begin(api.Node{Kind: api.Index}, endBracket, p.term)
			return true
		case isVerb(part):
			p.verb(api.Dyad, p.term)
			return true
		}
		p.finishVerbs()
		if part.Text == "" || part.Text != p.upTo() {
			return false
		}
		p.at++
		if p.finishMark() {
			return true
		}
	}
	return false
}

// next is the part that is next; without Kind and Text, if there is none, or it isn't sound.
func (p *parser) next() api.Tok {
	if p.at < len(p.parts) {
		return p.parts[p.at]
	}
	return api.Tok{}
}

// begin begins a node, of which some trees are there.
func (p *parser) begin(n api.Node, upTo string, kids ...[]api.Node) {
	p.open = append(p.open, begun{n, kids, upTo})
}

// grow is the tree of a node, and those below it.
func (p *parser) grow(n api.Node, kids ...[]api.Node) []api.Node {
	if p.deep { // so that many levels take no time
		return nil
	}
	l := tree.Node(n, kids...)
	p.deep = tree.Depth(l) > api.MaxDepth
	return l
}

// last takes away what was begun last.
func (p *parser) last() begun {
	b := p.open[len(p.open)-1]
	p.open = p.open[:len(p.open)-1]
	return b
}

// upTo is the Mark that ends what was begun last; empty, if there is none.
func (p *parser) upTo() string {
	if len(p.open) == 0 {
		return ""
	}
	return p.open[len(p.open)-1].upTo
}

// finishVerbs gives all that ends with what it stands in the term as its last tree.
func (p *parser) finishVerbs() {
	for len(p.open) > 0 && p.upTo() == "" {
		b := p.last()
		p.term = p.grow(b.node, append(b.kids, p.term)...)
	}
}

// finishMark ends, behind its Mark, what was begun last; it tells whether another term is missing then.
func (p *parser) finishMark() bool {
	b := p.last()
	switch b.node.Kind {
	case api.Monad, api.Dyad: // the body stands ahead of what is to the left
		p.begin(p.withAdv(b.node), "", append([][]api.Node{p.term}, b.kids...)...)
		return true
	case api.Amend:
		if p.next().Text == colon {
			p.at++
			p.begin(b.node, "", p.term)
			return true
		}
		p.term = p.grow(api.Node{Kind: api.Index}, p.grow(api.Node{Kind: api.Name, Name: b.node.Name}), p.term)
	case api.Index, api.Define:
		p.term = p.grow(b.node, append(b.kids, p.term)...)
		p.whole = b.node.Kind == api.Define
	}
	return false
}

// verb begins a node of a verb, the next part, and what is to its left, if anything is.
func (p *parser) verb(kind int, left ...[]api.Node) {
	n := api.Node{Kind: kind, Verb: p.next().Text}
	p.at++
	if n.Verb == brace {
		p.begin(n, endBrace, left...)
		return
	}
	p.begin(p.withAdv(n), "", left...)
}

// withAdv is a verb's node with the Adv that is next, if it may have that.
func (p *parser) withAdv(n api.Node) api.Node {
	advs := monadAdvs
	if n.Kind == api.Dyad {
		advs = dyadAdvs
	}
	if part := p.next(); part.Kind == lex.Adv && strings.Contains(advs, part.Text) {
		p.at++
		n.Adv = part.Text
	}
	return n
}

// numbers are those of the Nums that are next.
func (p *parser) numbers() []string {
	var l []string
	for len(l) < most && p.next().Kind == lex.Num {
		n, _ := lex.Number(p.next().Text)
		l = append(l, n)
		p.at++
	}
	return l
}

// isVerb tells whether a part is a verb, or begins one.
func isVerb(part api.Tok) bool {
	return part.Kind == lex.Sign || part.Kind == lex.Verb || part.Text == brace
}
