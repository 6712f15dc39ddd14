package tree

import (
	"slices"
	"strings"

	"reredos/api"
	"reredos/lex"
	"reredos/num"
)

// brace is the verb that a function's body is below.
const brace = "{"

// The adverbs that a verb may have.
const (
	monadAdvs = "'/\\`"
	dyadAdvs  = "'."
)

// most is how many numbers a Lit may have.
const most = 100

// same tells whether two nodes are the same.
func same(a, b api.Node) bool {
	return a.Kind == b.Kind && a.Verb == b.Verb && a.Adv == b.Adv && a.Name == b.Name && slices.Equal(a.Nums, b.Nums)
}

// mayBe tells whether a node may be: it is no more than what its kind uses of it, and that is as it should be.
func mayBe(n api.Node) bool {
	ok, used := false, api.Node{Kind: n.Kind}
	switch n.Kind {
	case api.Lit:
		ok, used.Nums = areNumbers(n.Nums), n.Nums
	case api.Name, api.Assign, api.Amend:
		ok, used.Name = isPart(n.Name, lex.Word), n.Name
	case api.Define:
		ok, used.Name = isPart(n.Name, lex.Verb), n.Name
	case api.Monad:
		ok, used.Verb, used.Adv = isVerb(n.Verb) && isAdv(n.Adv, monadAdvs), n.Verb, n.Adv
	case api.Dyad:
		ok, used.Verb, used.Adv = isVerb(n.Verb) && isAdv(n.Adv, dyadAdvs), n.Verb, n.Adv
	case api.Index:
		ok = true
	}
	return ok && same(n, used)
}

// headAlone tells whether a node may stand at a tree's head alone.
func headAlone(n api.Node) bool {
	return n.Kind == api.Assign || n.Kind == api.Amend || n.Kind == api.Define
}

// areNumbers tells whether texts may be a Lit's.
func areNumbers(l []string) bool {
	if len(l) < 1 || len(l) > most {
		return false
	}
	return !slices.ContainsFunc(l, func(s string) bool { return !num.May(s) })
}

// isPart tells whether a text is one part of a kind, and nothing else.
func isPart(s string, kind int) bool {
	parts, _, err := lex.Lex(s)
	return err == api.OK && len(parts) == 1 && parts[0].Kind == kind && parts[0].Text == s
}

// isVerb tells whether a text may be a node's verb.
func isVerb(s string) bool {
	return s == brace || isPart(s, lex.Sign) || isPart(s, lex.Verb)
}

// isAdv tells whether a text is nothing, or one of some adverbs.
func isAdv(s, advs string) bool {
	return s == "" || len(s) == 1 && strings.Contains(advs, s)
}
