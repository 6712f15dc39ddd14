package print_test

import (
	"slices"
	"strings"
	"sync"
	"testing"

	"reredos/api"
	"reredos/lex"
	"reredos/parse"
	"reredos/print"
	"reredos/tree"
)

// The calls, with the exact signatures that the chapter lists.
var (
	_ func(l []api.Node) (string, api.Errno)  = print.Print
	_ func(s string) (string, int, api.Errno) = print.Canonical
)

// prints holds a tree against the line that it is, and the line, if it isn't too long, against the tree (P10.3).
func prints(t *testing.T, want string, l ...api.Node) {
	t.Helper()
	if s, err := print.Print(l); s != want || err != api.OK {
		t.Errorf("%s: %.300q, %d, not %.300q", short(l), s, err, want)
	}
	if got := said(l); got != want {
		t.Errorf("%s: the words say %.300q, not %.300q", short(l), got, want)
	}
	if len(want) > 256 {
		canonical(t, want, "", 0, api.ErrBig)
		return
	}
	if again, at, err := parse.Parse(want); !equal(again, l) || at != 0 || err != api.OK {
		t.Errorf("%s is printed as %.300q, which is parsed as %s, %d, %d", short(l), want, short(again), at, err)
	}
	canonical(t, want, want, 0, api.OK)
}

// none holds nodes that may not be against the error that they have.
func none(t *testing.T, l ...api.Node) {
	t.Helper()
	if s, err := print.Print(l); s != "" || err != api.ErrArg {
		t.Errorf("%s: %.300q, %d", short(l), s, err)
	}
	if tree.May(l) {
		t.Errorf("%s may be", short(l))
	}
}

// canonical holds a line against what Canonical should tell.
func canonical(t *testing.T, s, want string, at int, err api.Errno) {
	t.Helper()
	if line, place, e := print.Canonical(s); line != want || place != at || e != err {
		t.Errorf("Canonical(%.300q): %.300q, %d, %d, not %.300q, %d, %d", s, line, place, e, want, at, err)
	}
}

var (
	a, b, c, x, y = name("a"), name("b"), name("c"), name("x"), name("y")
	n1, n2, n3    = lit("1"), lit("2"), lit("3")
)

func TestExamples(t *testing.T) { // the chapter's
	canonical(t, "( 1+2 ) * x", "(1+2)*x", 0, api.OK)
	prints(t, "(1+2)*x", dyad("*", ""), dyad("+", ""), n1, n2, x)
}

func TestNoTree(t *testing.T) { // P10.1, R1, R2
	none(t)
	for _, l := range [][]api.Node{nil, {}, make([]api.Node, 0, 3)} {
		none(t, l...)
	}
	for _, l := range [][]api.Node{list(n1, n2), list(x, n1), list(monad("-", ""), x, y), list(dyad("+", ""), a, b, c), list(index(), a, n1, n2), list(assign("a"), n1, n2), list(amend("a"), n1, n2, n3), list(define("F"), x, y), list(monad("{", ""), x, n1, n2), list(x, assign("a"), n1), list(x, api.Node{})} { // a node behind the tree
		none(t, l...)
	}
	for _, l := range [][]api.Node{list(dyad("+", ""), a, b), list(monad("-", ""), x), list(index(), a, n1), list(assign("a"), n1), list(amend("a"), n1, n2), list(define("F"), x), list(monad("{", "'"), dyad("+", ""), x, y, n1), list(dyad("{", "."), x, index(), a, n1, n2)} { // the list ends ahead of the tree's end
		for cut := range l {
			none(t, l[:cut]...)
		}
		prints(t, said(l), l...)
	}
}

func TestNodesThatMayNotBe(t *testing.T) { // P10.1, R5: in each way that the tree's chapter names
	for _, n := range []api.Node{
		{}, {Kind: -1}, {Kind: 9}, {Kind: 9, Name: "x"}, {Kind: 1 << 40, Nums: []string{"1"}}, {Kind: -1 << 63},
		{Kind: 1}, {Kind: 1, Nums: []string{}}, lit(ones(101)...), lit(ones(1000)...), lit(""), lit("01"), lit("-0"), lit("-"), lit("_1"), lit("+1"), lit("1 "), lit("1", "x"), lit("x", "1"), lit("1 2"), lit(nines(101)), lit("-" + nines(101)), lit("1", "", "2"),
		{Kind: 1, Nums: []string{"1"}, Verb: "+"}, {Kind: 1, Nums: []string{"1"}, Adv: "'"}, {Kind: 1, Nums: []string{"1"}, Name: "x"},
		name(""), name("X"), name("F"), name("1"), name("_1"), name("x "), name(" x"), name("x y"), name("xY"), name("x_"), name("x1;"), name("é"), name("+"), name("{"), name("x\n"), name("w" + strings.Repeat("a", 256)), {Kind: 2, Name: "x", Verb: "+"}, {Kind: 2, Name: "x", Adv: "'"}, {Kind: 2, Name: "x", Nums: []string{"1"}},
		{Kind: 1, Nums: []string{"1"}, Verb: "{"}, {Kind: 2, Name: "x", Verb: "{"},
	} {
		none(t, n)
		none(t, monad("-", ""), n)
		none(t, dyad("+", ""), n, x)
		none(t, dyad("+", ""), x, n)
		none(t, monad("{", ""), n, x)
		none(t, index(), n, x)
		none(t, index(), x, n)
		none(t, assign("a"), n)
		none(t, amend("a"), n, x)
		none(t, amend("a"), x, n)
		none(t, define("F"), n)
	}
	for _, verb := range []string{"", " ", "'", "/", "\\", ".", "`", "(", ")", "[", "]", "}", ":", "f", "x", "1", "++", "+ ", " +", " F", "F ", "F G", "F_", "Fé", "{}", "{ ", "{x}", "\"", ";", "_", "\x00", "V" + strings.Repeat("b", 256)} {
		none(t, monad(verb, ""), x)
		none(t, dyad(verb, ""), x, y)
		none(t, monad(verb, ""), x, y)
		none(t, dyad(verb, ""), n1, x, y)
	}
	for _, adv := range append(strings.Split("+-()[]{}:", ""), "''", "'/", " '", "' ", "F", "x", "1", " ", "\x00") {
		none(t, monad("-", adv), x)
		none(t, monad("F", adv), x)
		none(t, monad("{", adv), y, x)
		none(t, dyad("+", adv), x, y)
		none(t, dyad("{", adv), x, x, y)
	}
	for _, verb := range []string{"+", "F", "{"} {
		body := list(n1)[:len(verb)/2]
		if verb == "{" {
			body = list(n1)
		}
		none(t, row(list(monad(verb, ".")), body, list(x))...)
		for _, adv := range []string{"/", "\\", "`"} {
			none(t, row(list(dyad(verb, adv)), body, list(x, y))...)
		}
	}
	for _, n := range []api.Node{{Kind: 3, Verb: "-", Name: "x"}, {Kind: 3, Verb: "-", Nums: []string{"1"}}} {
		none(t, n, x)
	}
	for _, n := range []api.Node{{Kind: 4, Verb: "-", Name: "x"}, {Kind: 4, Verb: "-", Nums: []string{"1"}}, {Kind: 8, Verb: "+"}, {Kind: 8, Adv: "'"}, {Kind: 8, Name: "x"}, {Kind: 8, Nums: []string{"1"}}, {Kind: 6, Name: "a", Verb: "+"}, {Kind: 6, Name: "a", Adv: "'"}, {Kind: 6, Name: "a", Nums: []string{"1"}}, amend(""), amend("A"), amend("1"), amend("a b")} {
		none(t, n, x, y)
	}
	for _, n := range []api.Node{{Kind: 5, Name: "a", Verb: "+"}, {Kind: 5, Name: "a", Adv: "'"}, {Kind: 5, Name: "a", Nums: []string{"1"}}, {Kind: 7, Name: "F", Verb: "+"}, {Kind: 7, Name: "F", Adv: "'"}, {Kind: 7, Name: "F", Nums: []string{"1"}}, assign(""), assign("F"), assign("+"), assign("a "), define(""), define("f"), define("+"), define("{"), define("F ")} {
		none(t, n, x)
	}
}

func TestHeadsBelow(t *testing.T) { // P10.1: Assign, Amend and Define stand at the head alone
	for _, head := range [][]api.Node{list(assign("a"), n1), list(amend("a"), n1, n2), list(define("F"), x)} {
		prints(t, said(head), head...)
		none(t, row(list(monad("-", "")), head)...)
		none(t, row(list(dyad("+", ""), x), head)...)
		none(t, row(list(dyad("+", "")), head, list(x))...)
		none(t, row(list(monad("{", "")), head, list(x))...)
		none(t, row(list(monad("{", ""), x), head)...)
		none(t, row(list(dyad("{", ""), x, y), head)...)
		none(t, row(list(index()), head, list(x))...)
		none(t, row(list(index(), x), head)...)
		none(t, row(list(assign("b")), head)...)
		none(t, row(list(amend("b"), x), head)...)
		none(t, row(list(amend("b")), head, list(x))...)
		none(t, row(list(define("G")), head)...)
	}
}

func TestDepth(t *testing.T) { // P10.1, P10.2: 40 levels at most
	rep := func(levels int, ahead []api.Node, behind []api.Node) []api.Node {
		return row(slices.Repeat(ahead, levels-1), list(n1), slices.Repeat(behind, levels-1))
	}
	for _, c := range []struct {
		ahead, behind []api.Node
		from, to      string // what stands ahead of what is below, and behind it
	}{
		{list(monad("-", "")), nil, "-", ""}, {list(monad("F", "'")), nil, " F '", ""}, {list(dyad("+", ""), x), nil, "x+", ""}, {list(index(), a), nil, "a[", "]"}, {list(index()), list(n2), "", "[2]"}, {list(monad("{", "/")), list(x), "{", "}/x"}, {list(monad("{", ""), y), nil, "{y}", ""}, {list(dyad("{", "")), list(x, y), "x{", "}y"}, {list(dyad("{", "."), x, y), nil, "y{x}.", ""},
	} {
		for _, levels := range []int{1, 2, 38, 39, 40} {
			prints(t, strings.Repeat(c.from, levels-1)+"1"+strings.Repeat(c.to, levels-1), rep(levels, c.ahead, c.behind)...)
		}
		for _, levels := range []int{41, 42, 100, 1 << 16} {
			none(t, rep(levels, c.ahead, c.behind)...)
			if s := strings.Repeat(c.from, levels-1) + "1" + strings.Repeat(c.to, levels-1); len(s) <= 256 {
				canonical(t, s, "", 0, api.ErrDeep)
			} else {
				canonical(t, s, "", 0, api.ErrBig)
			}
		}
		for _, h := range []struct {
			from, to string
			head     []api.Node
		}{{"a:", "", list(assign("a"))}, {"a[1]:", "", list(amend("a"), n1)}, {"F:{", "}", list(define("F"))}} {
			for _, levels := range []int{38, 39} { // and the head's own level
				prints(t, h.from+strings.Repeat(c.from, levels-1)+"1"+strings.Repeat(c.to, levels-1)+h.to, row(h.head, rep(levels, c.ahead, c.behind))...)
			}
			none(t, row(h.head, rep(40, c.ahead, c.behind))...)
		}
	}
	for levels := 1; levels < 43; levels++ { // what is to the left, in as many parentheses
		l := row(slices.Repeat(list(dyad("-", "")), levels-1), list(n1), slices.Repeat(list(x), levels-1))
		if levels > 40 {
			none(t, l...)
			continue
		}
		prints(t, strings.Repeat("(", max(0, levels-2))+"1"+strings.Repeat("-x)", max(0, levels-2))+strings.Repeat("-x", min(1, levels-1)), l...)
	}
}

func TestLits(t *testing.T) { // P10.1: numbers as parts, a blank between each two
	prints(t, "0", lit("0"))
	prints(t, "1", lit("1"))
	prints(t, "_1", lit("-1"))
	prints(t, "1 2", lit("1", "2"))
	prints(t, "1 2 3", lit("1", "2", "3"))
	prints(t, "_1 2 _3", lit("-1", "2", "-3"))
	prints(t, "0 0 _10 10", lit("0", "0", "-10", "10"))
	prints(t, nines(100), lit(nines(100)))
	prints(t, "_"+nines(100), lit("-"+nines(100)))
	prints(t, nines(100)+" _"+nines(100), lit(nines(100), "-"+nines(100)))
	prints(t, nines(100)+" _"+nines(100)+" 1", lit(nines(100), "-"+nines(100), "1"))
	prints(t, strings.Repeat("1 ", 98)+"1", lit(ones(99)...))
	prints(t, strings.Repeat("1 ", 99)+"1", lit(ones(100)...))
	prints(t, strings.Repeat("_9 ", 49)+"_9", lit(slices.Repeat([]string{"-9"}, 50)...))
	prints(t, strings.Repeat("_"+nines(100)+" ", 99)+"_"+nines(100), lit(slices.Repeat([]string{"-" + nines(100)}, 100)...))
}

func TestNames(t *testing.T) { // P10.1
	for _, s := range []string{"a", "z", "x", "ab", "a0", "a1b2", "z00", "in", "w" + strings.Repeat("a", 254), "w" + strings.Repeat("a", 255)} {
		prints(t, s, name(s))
		if len(s) < 250 {
			prints(t, s+":"+s, assign(s), name(s))
			prints(t, s+"["+s+"]:"+s, amend(s), name(s), name(s))
			prints(t, s+"["+s+"]", index(), name(s), name(s))
			prints(t, s+"-"+s, dyad("-", ""), name(s), name(s))
		}
	}
}

func TestSigns(t *testing.T) { // P10.1: each, with no Adv, and with each that may stand there
	for _, sign := range strings.Split(signs, "") {
		for _, adv := range monadAdvs() {
			prints(t, sign+adv+"1", monad(sign, adv), n1)
			prints(t, sign+adv+"x", monad(sign, adv), x)
			prints(t, sign+adv+"_1 2", monad(sign, adv), lit("-1", "2"))
		}
		for _, adv := range dyadAdvs() {
			prints(t, "1"+sign+adv+"2", dyad(sign, adv), n1, n2)
			prints(t, "x"+sign+adv+"_2", dyad(sign, adv), x, lit("-2"))
			prints(t, "1 2"+sign+adv+"3 4", dyad(sign, adv), lit("1", "2"), lit("3", "4"))
		}
	}
}

func TestVerbs(t *testing.T) { // P10.1: a blank ahead and one behind, and the Adv behind that
	for _, verb := range []string{"F", "Z", "AB", "Ab", "A0", "F1a2B3", "V" + strings.Repeat("b", 200)} {
		for _, adv := range monadAdvs() {
			text := " " + verb + " " + adv
			prints(t, text+"1", monad(verb, adv), n1)
			prints(t, text+"x", monad(verb, adv), x)
			prints(t, "a:"+text+"x", assign("a"), monad(verb, adv), x)
			prints(t, "a["+text+"x]:1", amend("a"), monad(verb, adv), x, n1)
			prints(t, "a[1]:"+text+"x", amend("a"), n1, monad(verb, adv), x)
			prints(t, "F:{"+text+"x}", define("F"), monad(verb, adv), x)
			prints(t, "("+text+"x)+1", dyad("+", ""), monad(verb, adv), x, n1)
			prints(t, "("+text+"x)[1]", index(), monad(verb, adv), x, n1)
			prints(t, "x["+text+"1]", index(), x, monad(verb, adv), n1)
			prints(t, "{"+text+"x}1", monad("{", ""), monad(verb, adv), x, n1)
			prints(t, "-"+text+"x", monad("-", ""), monad(verb, adv), x)
			prints(t, "1-"+text+"x", dyad("-", ""), n1, monad(verb, adv), x)
			prints(t, "{y}'"+text+"x", monad("{", "'"), y, monad(verb, adv), x)
			prints(t, text+"-x", monad(verb, adv), monad("-", ""), x)
			prints(t, text+" G x", monad(verb, adv), monad("G", ""), x)
			prints(t, " G "+text+"x", monad("G", ""), monad(verb, adv), x)
			prints(t, " G /"+text+"x", monad("G", "/"), monad(verb, adv), x)
			prints(t, "1 G "+text+"x", dyad("G", ""), n1, monad(verb, adv), x)
			prints(t, text+"{y}x", monad(verb, adv), monad("{", ""), y, x)
			prints(t, text+"(-x)-y", monad(verb, adv), dyad("-", ""), monad("-", ""), x, y)
		}
		for _, adv := range dyadAdvs() {
			text := " " + verb + " " + adv
			prints(t, "1"+text+"2", dyad(verb, adv), n1, n2)
			prints(t, "x"+text+"y", dyad(verb, adv), x, y)
			prints(t, "1 2"+text+"_3 4", dyad(verb, adv), lit("1", "2"), lit("-3", "4"))
			prints(t, "x[1]"+text+"y[2]", dyad(verb, adv), index(), x, n1, index(), y, n2)
			prints(t, "(-x)"+text+"-y", dyad(verb, adv), monad("-", ""), x, monad("-", ""), y)
			prints(t, "( F x)"+text+" F y", dyad(verb, adv), monad("F", ""), x, monad("F", ""), y)
			prints(t, "(x F y)"+text+"x F y", dyad(verb, adv), dyad("F", ""), x, y, dyad("F", ""), x, y)
			prints(t, "{x"+text+"y}/1", monad("{", "/"), dyad(verb, adv), x, y, n1)
			prints(t, "F:{x"+text+"y}", define("F"), dyad(verb, adv), x, y)
		}
	}
}

func TestBodies(t *testing.T) { // P10.1: in braces, the Adv behind them
	for text, body := range map[string][]api.Node{"1": list(n1), "1 _2": list(lit("1", "-2")), "x": list(x), "-x": list(monad("-", ""), x), " F x": list(monad("F", ""), x), "x+y": list(dyad("+", ""), x, y), "x F 'y": list(dyad("F", "'"), x, y), "x[1]": list(index(), x, n1), "{x}y": list(monad("{", ""), x, y), "{{y}`x}'y": list(monad("{", "'"), monad("{", "`"), y, x, y), "x{x-y}.y": list(dyad("{", "."), dyad("-", ""), x, y, x, y), "(x-y)-1": list(dyad("-", ""), dyad("-", ""), x, y, n1)} {
		for _, adv := range monadAdvs() {
			prints(t, "{"+text+"}"+adv+"1", row(list(monad("{", adv)), body, list(n1))...)
			prints(t, "{"+text+"}"+adv+text, row(list(monad("{", adv)), body, body)...)
			prints(t, "-{"+text+"}"+adv+"{y}1", row(list(monad("-", ""), monad("{", adv)), body, list(monad("{", ""), y, n1))...)
		}
		for _, adv := range dyadAdvs() {
			prints(t, "a{"+text+"}"+adv+"1", row(list(dyad("{", adv)), body, list(a, n1))...)
			prints(t, "(-a){"+text+"}"+adv+text, row(list(dyad("{", adv)), body, list(monad("-", ""), a), body)...)
		}
		prints(t, "F:{"+text+"}", row(list(define("F")), body)...)
		prints(t, "F0xY:{"+text+"}", row(list(define("F0xY")), body)...)
	}
}

// below are trees of each Kind that may stand below others, as they are printed, and whether they are in parentheses ahead of a verb, and of brackets.
func below() []struct {
	text  string
	in    bool
	nodes []api.Node
} {
	return []struct {
		text  string
		in    bool
		nodes []api.Node
	}{
		{"1", false, list(n1)}, {"_1", false, list(lit("-1"))}, {"1 2 3", false, list(lit("1", "2", "3"))}, {nines(30), false, list(lit(nines(30)))}, {"x", false, list(x)}, {"a1", false, list(name("a1"))},
		{"-x", true, list(monad("-", ""), x)}, {"+/x", true, list(monad("+", "/"), x)}, {" F x", true, list(monad("F", ""), x)}, {" F 'x", true, list(monad("F", "'"), x)}, {"{y}x", true, list(monad("{", ""), y, x)}, {"{y}\\x", true, list(monad("{", "\\"), y, x)}, {"--x", true, list(monad("-", ""), monad("-", ""), x)}, {"-x[1]", true, list(monad("-", ""), index(), x, n1)},
		{"x-y", true, list(dyad("-", ""), x, y)}, {"1 2-'3", true, list(dyad("-", "'"), lit("1", "2"), n3)}, {"x F y", true, list(dyad("F", ""), x, y)}, {"x F .y", true, list(dyad("F", "."), x, y)}, {"x{x}y", true, list(dyad("{", ""), x, x, y)}, {"(x-y)-1", true, list(dyad("-", ""), dyad("-", ""), x, y, n1)}, {"x-y-1", true, list(dyad("-", ""), x, dyad("-", ""), y, n1)}, {"(-x)--y", true, list(dyad("-", ""), monad("-", ""), x, monad("-", ""), y)},
		{"x[1]", false, list(index(), x, n1)}, {"1 2[0]", false, list(index(), lit("1", "2"), lit("0"))}, {"x[1][2]", false, list(index(), index(), x, n1, n2)}, {"x[y[1]]", false, list(index(), x, index(), y, n1)}, {"(-x)[1]", false, list(index(), monad("-", ""), x, n1)}, {"x[-1]", false, list(index(), x, monad("-", ""), n1)}, {"(x-y)[y-x]", false, list(index(), dyad("-", ""), x, y, dyad("-", ""), y, x)},
	}
}

func TestEachKindInEachPlace(t *testing.T) { // P10.1: in parentheses to the left, and where it is indexed, if it is a Monad or a Dyad; nowhere else
	for _, k := range below() {
		term := k.text
		if k.in {
			term = "(" + k.text + ")"
		}
		prints(t, k.text, k.nodes...)
		for _, verb := range []struct {
			text string
			head string
			body []api.Node
		}{{"-", "-", nil}, {" F ", "F", nil}, {"{x-y}", "{", list(dyad("-", ""), x, y)}} {
			for _, adv := range monadAdvs() {
				prints(t, verb.text+adv+k.text, row(list(monad(verb.head, adv)), verb.body, k.nodes)...)
			}
			for _, adv := range dyadAdvs() {
				prints(t, term+verb.text+adv+"b", row(list(dyad(verb.head, adv)), verb.body, k.nodes, list(b))...)
				prints(t, "b"+verb.text+adv+k.text, row(list(dyad(verb.head, adv)), verb.body, list(b), k.nodes)...)
				prints(t, term+verb.text+adv+k.text, row(list(dyad(verb.head, adv)), verb.body, k.nodes, k.nodes)...)
			}
		}
		prints(t, "{"+k.text+"}b", row(list(monad("{", "")), k.nodes, list(b))...)
		prints(t, "a{"+k.text+"}.b", row(list(dyad("{", ".")), k.nodes, list(a, b))...)
		prints(t, term+"[b]", row(list(index()), k.nodes, list(b))...)
		prints(t, "b["+k.text+"]", row(list(index(), b), k.nodes)...)
		prints(t, "5["+k.text+"]", row(list(index(), lit("5")), k.nodes)...)
		prints(t, term+"["+k.text+"]", row(list(index()), k.nodes, k.nodes)...)
		prints(t, "a:"+k.text, row(list(assign("a")), k.nodes)...)
		prints(t, "a["+k.text+"]:b", row(list(amend("a")), k.nodes, list(b))...)
		prints(t, "a[b]:"+k.text, row(list(amend("a"), b), k.nodes)...)
		prints(t, "a["+k.text+"]:"+k.text, row(list(amend("a")), k.nodes, k.nodes)...)
		prints(t, "F:{"+k.text+"}", row(list(define("F")), k.nodes)...)
	}
}

func TestTwoBelowEach(t *testing.T) { // P10.1, P10.3: trees of each Kind in each place of trees of each Kind
	under := below()
	for i, k := range under {
		for j, m := range under {
			for _, head := range [][]api.Node{list(dyad("-", "")), list(dyad("F", "'")), list(dyad("{", "."), x), list(index()), list(amend("a"))} {
				l := row(head, k.nodes, m.nodes)
				prints(t, said(l), l...)
				if (i+j)%5 == 0 {
					for _, more := range [][]api.Node{list(monad("-", "")), list(index()), list(dyad("+", ""))} {
						for _, n := range under {
							if head[0].Kind == 6 {
								none(t, row(more, l, n.nodes)...)
								continue
							}
							kids := row(l, n.nodes)
							if more[0].Kind == 3 {
								kids = l
							}
							prints(t, said(row(more, kids)), row(more, kids)...)
						}
					}
				}
			}
		}
	}
}

func TestNestedLines(t *testing.T) { // P10.1: bodies in bodies, Indexes in Indexes, and of Indexes
	prints(t, "{{{x}y}x}1", monad("{", ""), monad("{", ""), monad("{", ""), x, y, x, n1)
	prints(t, "a[1][2][3]", index(), index(), index(), a, n1, n2, n3)
	prints(t, "a[b[c[1]]]", index(), a, index(), b, index(), c, n1)
	prints(t, "a[b[1]][c[2]]", index(), index(), a, index(), b, n1, index(), c, n2)
	prints(t, "(a[1]-b)[2]", index(), dyad("-", ""), index(), a, n1, b, n2)
	prints(t, "((-a)[1]-b)[2]", index(), dyad("-", ""), index(), monad("-", ""), a, n1, b, n2)
	prints(t, "((a-b)-c)-x", dyad("-", ""), dyad("-", ""), dyad("-", ""), a, b, c, x)
	prints(t, "a-b-c-x", dyad("-", ""), a, dyad("-", ""), b, dyad("-", ""), c, x)
	prints(t, "a-(b-c)-x", dyad("-", ""), a, dyad("-", ""), dyad("-", ""), b, c, x)
	prints(t, "-(-a)-b", monad("-", ""), dyad("-", ""), monad("-", ""), a, b)
	prints(t, "(a{x{y}y}b){x}'c", dyad("{", "'"), x, dyad("{", ""), dyad("{", ""), y, x, y, a, b, c)
	prints(t, "a[-b]:(c[1]-x)[2]", amend("a"), monad("-", ""), b, index(), dyad("-", ""), index(), c, n1, x, n2)
	prints(t, " F  G  H x", monad("F", ""), monad("G", ""), monad("H", ""), x)
	prints(t, " F ' G / H x", monad("F", "'"), monad("G", "/"), monad("H", ""), x)
	prints(t, "a F  G b", dyad("F", ""), a, monad("G", ""), b)
	prints(t, "F:{ F x- F y}", define("F"), monad("F", ""), dyad("-", ""), x, monad("F", ""), y)
}

func TestLongLines(t *testing.T) { // P10.1, P10.3: what is printed may be of more than 256 bytes; it can't be read again then
	for n := 250; n < 263; n++ {
		w := strings.Repeat("a", 200)
		rest := strings.Repeat("b", n-len(w)-3)
		prints(t, "-"+w+"-_"+nines(n-203), monad("-", ""), dyad("-", ""), name(w), lit("-"+nines(n-203)))
		prints(t, "("+w+"-x)-"+rest[3:], dyad("-", ""), dyad("-", ""), name(w), x, name(rest[3:]))
		prints(t, w+":-+"+rest, assign(w), monad("-", ""), monad("+", ""), name(rest))
		prints(t, w+"["+rest[1:]+"]:x", amend(w), name(rest[1:]), x)
		prints(t, "F"+w+":{"+rest[1:]+"}", define("F"+w), name(rest[1:]))
		prints(t, " F"+w+" "+rest, monad("F"+w, ""), name(rest))
		prints(t, nines(100)+" _"+nines(100)+" "+nines(n-203), lit(nines(100), "-"+nines(100), nines(n-203)))
		prints(t, strings.Repeat("+/", n-250)+strings.Repeat("a", 500-n), row(slices.Repeat(list(monad("+", "/")), n-250), list(name(strings.Repeat("a", 500-n))))...)
	}
	for n := 250; n <= 256; n++ {
		prints(t, strings.Repeat("b", n), name(strings.Repeat("b", n)))
	}
	long, word := "V"+strings.Repeat("b", 255), "w"+strings.Repeat("a", 255)
	prints(t, " "+long+" x", monad(long, ""), x)
	prints(t, long+":{ "+long+" 'x}", define(long), monad(long, "'"), x)
	prints(t, "("+word+" "+long+" .x)[-"+word+"]", index(), dyad(long, "."), name(word), x, monad("-", ""), name(word))
	prints(t, word+"["+word+"]:"+word, amend(word), name(word), name(word))
	prints(t, word+":"+word, assign(word), name(word))
}

func TestCanonicalMayBeLonger(t *testing.T) { // P10.2: a line of more bytes than may be read is told, too
	for n := 35; n < 40; n++ {
		canonical(t, strings.Repeat("F ", n)+"x", strings.Repeat(" F ", n)+"x", 0, api.OK)
	}
	for n := 1; n <= 28; n++ {
		s, want := strings.Repeat("(F F x)F ", n)+"x", strings.Repeat("( F  F x) F ", n)+"x"
		if len(s) > 256 {
			t.Fatalf("%d bytes", len(s))
		}
		canonical(t, s, want, 0, api.OK)
		l, _, _ := parse.Parse(s)
		prints(t, want, l...)
	}
}

func TestCanonicalErrors(t *testing.T) { // P10.2, R1: parse.Parse's place and error
	for _, c := range []struct {
		s   string
		at  int
		err api.Errno
	}{
		{"", 0, api.ErrForm}, {" ", 1, api.ErrForm}, {"     ", 5, api.ErrForm}, {strings.Repeat(" ", 256), 256, api.ErrForm}, {strings.Repeat(" ", 257), 0, api.ErrBig},
		{")", 0, api.ErrForm}, {":1", 0, api.ErrForm}, {"'1", 0, api.ErrForm}, {"]", 0, api.ErrForm}, {"  /x", 2, api.ErrForm}, // at the first part
		{"a b", 2, api.ErrForm}, {"1 2 x", 4, api.ErrForm}, {"a+/b", 2, api.ErrForm}, {"(a]+1", 2, api.ErrForm}, {"a[1][2]:3", 7, api.ErrForm}, {"F:x", 2, api.ErrForm}, {"F:{x}1", 5, api.ErrForm}, {"a:b:1", 3, api.ErrForm}, {strings.Repeat("1 ", 101) + "+x", 200, api.ErrForm}, // between
		{"1+2)", 3, api.ErrForm}, {"x y", 2, api.ErrForm}, {"a[1]:2]", 6, api.ErrForm}, {"{x}1}", 4, api.ErrForm}, {strings.Repeat("1 ", 101), 200, api.ErrForm}, // at the last part
		{"(", 1, api.ErrForm}, {"1+", 2, api.ErrForm}, {"1+ ", 3, api.ErrForm}, {"a:", 2, api.ErrForm}, {"a[1", 3, api.ErrForm}, {"F", 1, api.ErrForm}, {"F:{x", 4, api.ErrForm}, {"{x}", 3, api.ErrForm}, {"(x", 2, api.ErrForm}, // at the end
		{"\"", 0, api.ErrForm}, {"1+;", 2, api.ErrForm}, {"x 01 y", 2, api.ErrForm}, {"x _", 2, api.ErrForm}, {"a:\xff", 2, api.ErrForm}, {")\n", 1, api.ErrForm}, {nines(101), 0, api.ErrForm}, // of bytes
		{strings.Repeat("-", 40) + "1", 0, api.ErrDeep}, {"x" + strings.Repeat("[1]", 40), 0, api.ErrDeep}, {"a:" + strings.Repeat("-", 39) + "1", 0, api.ErrDeep}, {strings.Repeat("-", 40) + "1)", 41, api.ErrForm},
		{"x" + strings.Repeat(" ", 256), 0, api.ErrBig}, {strings.Repeat("x", 257), 0, api.ErrBig}, {strings.Repeat("(", 1<<20), 0, api.ErrBig}, {strings.Repeat("\xff", 300), 0, api.ErrBig},
	} {
		canonical(t, c.s, "", c.at, c.err)
		if l, at, err := parse.Parse(c.s); l != nil || at != c.at || err != c.err {
			t.Errorf("%.300q: Parse tells %v, %d, %d", c.s, l, at, err)
		}
	}
}

func TestCanonicalLines(t *testing.T) { // P10.2: whatever blanks and parentheses there are
	for want, lines := range map[string][]string{
		"1":                     {"1", " 1", "1 ", "  1   ", "(1)", "((1))", " ( ( 1 ) ) ", strings.Repeat("(", 127) + "1" + strings.Repeat(")", 127), strings.Repeat(" ", 255) + "1", "1" + strings.Repeat(" ", 255)},
		"1 _2 3":                {"1 _2 3", "1_2 3", "1  _2  3", "(1 _2 3)", " 1_2   3 "},
		"a+b":                   {"a+b", "a +b", "a+ b", "a + b", "(a)+b", "a+(b)", "(a)+(b)", "(a+b)", "((a)+((b)))", "  a  +  b  "},
		"(a+b)*c":               {"(a+b)*c", "((a+b))*c", "( a+b )*(c)", "((a+b)*c)"},
		"a+b*c":                 {"a+b*c", "a+(b*c)", "(a+(b*(c)))", "a + b * c"},
		"-a-b":                  {"-a-b", "-(a-b)", "-((a)-(b))", " - a - b"},
		"(-a)-b":                {"(-a)-b", "((-a))-b", "( - a ) - b"},
		"a[1]":                  {"a[1]", "(a)[1]", "a[(1)]", "(a[1])", " a [ 1 ] ", "((a)[(1)])"},
		"(-a)[1][2]":            {"(-a)[1][2]", "((-a)[1])[2]", "(((-a)[(1)])[2])"},
		"-a[1]":                 {"-a[1]", "-(a[1])", "(-a[1])", "-(a)[1]"},
		" F x":                  {"F x", "F(x)", " F x ", "F   x", "(F x)", " F x"},
		" F  G x":               {"F G x", "F(G x)", "F  G  x", "F G(x)"},
		" F 'x":                 {"F'x", "F 'x", "F' x", "F ' x", "(F'(x))"},
		"1 F 2":                 {"1F 2", "1 F 2", "(1)F(2)", "1  F  2", "1F(2)"},
		"a F .b":                {"a F.b", "a F . b", "(a)F.(b)"},
		"{x+y}/1 2":             {"{x+y}/1 2", "{ x + y } / 1 2", "{(x+y)}/(1 2)", "({((x)+y)}/1 2)"},
		"a{x}'b":                {"a{x}'b", "(a){x}'b", "a { x } ' b", "a{(x)}'(b)"},
		"a:1+2":                 {"a:1+2", " a : 1 + 2 ", "a:(1+2)", "a:(1)+(2)"},
		"a[0]:9":                {"a[0]:9", "a [ 0 ] : 9", "a[(0)]:(9)"},
		"a[-1]: F x":            {"a[-1]:F x", "a[(-1)]:(F x)"},
		"F:{x*2}":               {"F:{x*2}", " F : { x * 2 } ", "F:{(x*2)}", "F:{(x)*(2)}"},
		"F:{ F x}":              {"F:{F x}", "F:{ F x }", "F:{(F(x))}"},
		"(1 2)[0]"[1:4] + "[0]": {"(1 2)[0]", "1 2[0]", "( 1 2 )[ 0 ]"},
	} {
		for _, s := range lines {
			canonical(t, s, want, 0, api.OK)
		}
		canonical(t, want, want, 0, api.OK)
	}
}

// neededAlone holds a line against this: it has just the blanks that are told, and no parentheses that aren't needed.
func neededAlone(t *testing.T, s string, l []api.Node) {
	t.Helper()
	parts, _, err := lex.Lex(s)
	if err != api.OK || spread(parts) != s {
		t.Errorf("%q, not %q (%d)", s, spread(parts), err)
	}
	var open []int
	for i, part := range parts {
		switch part.Text {
		case "(":
			open = append(open, i)
		case ")":
			from := open[len(open)-1]
			open = open[:len(open)-1]
			without := slices.Concat(parts[:from], parts[from+1:i], parts[i+1:])
			if got, _, err := parse.Toks(without, 0); err == api.OK && equal(got, l) {
				t.Errorf("%q has parentheses that aren't needed, at %d", s, parts[from].At)
			}
		}
	}
}

func TestAnyTree(t *testing.T) { // P10.1, P10.2, P10.3: what is printed, and what is read of it, and of any other line of the same tree
	r, long, read := random(1), 0, 0
	for range 10000 {
		l := r.line(1 + r.below(7))
		s, err := print.Print(l)
		if err != api.OK || s != said(l) {
			t.Fatalf("%s: %q, %d, not %q", short(l), s, err, said(l))
		}
		if other := r.loosely(l); len(other) <= 256 {
			canonical(t, other, s, 0, api.OK)
			read++
		}
		if len(s) > 256 {
			canonical(t, s, "", 0, api.ErrBig)
			long++
			continue
		}
		if again, at, err := parse.Parse(s); !equal(again, l) || at != 0 || err != api.OK {
			t.Fatalf("%q: %s, %d, %d, not %s", s, short(again), at, err, short(l))
		}
		canonical(t, s, s, 0, api.OK)
		neededAlone(t, s, l)
	}
	if long < 150 || read < 5000 {
		t.Errorf("%d lines are too long, %d other ones were read", long, read)
	}
}

// growTrees are all trees of so many nodes at most, of a node of each sort.
func growTrees(many int) [][]api.Node {
	sorts := list(n1, lit("-1", "2"), x, monad("-", ""), monad("F", ""), monad("+", "/"), monad("{", "'"), dyad("-", ""), dyad("F", "."), dyad("{", ""), index())
	trees := make([][][]api.Node, many+1) // by how many nodes they have
	var rows func(kids, nodes int) [][]api.Node
	rows = func(kids, nodes int) [][]api.Node {
		if kids == 0 {
			if nodes == 0 {
				return [][]api.Node{nil}
			}
			return nil
		}
		var all [][]api.Node
		for first := 1; first <= nodes-(kids-1); first++ {
			for _, kid := range trees[first] {
				for _, rest := range rows(kids-1, nodes-first) {
					all = append(all, row(kid, rest))
				}
			}
		}
		return all
	}
	for n := 1; n <= many; n++ {
		for _, head := range sorts {
			for _, below := range rows(kidsOf(head), n-1) {
				trees[n] = append(trees[n], row(list(head), below))
			}
		}
	}
	return slices.Concat(trees...)
}

func TestAllSmallTrees(t *testing.T) { // P10.1, P10.3
	all := growTrees(5)
	if len(all) < 3000 {
		t.Fatalf("%d trees", len(all))
	}
	for i, l := range all {
		prints(t, said(l), l...)
		neededAlone(t, said(l), l)
		for _, head := range [][]api.Node{list(assign("a")), list(amend("a"), n1), list(define("F"))} {
			prints(t, said(row(head, l)), row(head, l)...)
		}
		other := all[(i*7919)%len(all)]
		prints(t, said(row(list(amend("a")), l, other)), row(list(amend("a")), l, other)...)
		none(t, l[:len(l)-1]...)
		none(t, row(l, list(x))...)
		if t.Failed() {
			return
		}
	}
}

func TestSpoiltTrees(t *testing.T) { // P10.1, R5: what may not be is told, and what still may be is printed
	r, told := random(3), map[bool]int{}
	for range 20000 {
		l := r.spoilt(r.line(1 + r.below(5)))
		may := tree.May(l)
		told[may]++
		if !may {
			none(t, l...)
			continue
		}
		if s, err := print.Print(l); s != said(l) || err != api.OK {
			t.Errorf("%s: %q, %d", short(l), s, err)
		}
	}
	if told[true] < 1000 || told[false] < 10000 {
		t.Errorf("too few of a kind: %v", told)
	}
}

func TestAnyLine(t *testing.T) { // P10.2, P1: of any parts and bytes, against what Parse tells
	r, told := random(5), map[api.Errno]int{}
	pieces := strings.Split("1 a F + - ' / . ( ) [ ] { } : x _5", " ")
	for range 40000 {
		s := ""
		for room := r.below(14); len(s) < room; {
			if r.below(60) == 0 {
				s += string([]byte{byte(r.below(256))})
				continue
			}
			s += one(&r, []string{" ", one(&r, pieces), one(&r, pieces)})
		}
		l, at, err := parse.Parse(s)
		told[err]++
		want := ""
		if err == api.OK {
			want = said(l)
		}
		canonical(t, s, want, at, err)
	}
	if told[api.OK] < 500 || told[api.ErrForm] < 5000 {
		t.Errorf("too few of a kind: %v", told)
	}
}

func TestManyNodes(t *testing.T) { // P1: very many levels, and very many nodes, are soon gone through
	const levels = 1 << 16
	for _, ahead := range [][]api.Node{list(monad("-", "")), list(monad("{", "")), list(dyad("+", "")), list(dyad("{", "")), list(index()), list(index(), x), list(dyad("F", ""), x)} {
		behind := kidsOf(ahead[0]) - len(ahead)
		none(t, row(slices.Repeat(ahead, levels), list(n1), slices.Repeat(list(x), behind*levels))...)
		none(t, slices.Repeat(ahead, levels)...)
	}
	wide, s := list(x), "x"
	for i := range 15 { // two below each
		wide = row(list(dyad("+", "")), wide, wide)
		if i == 0 {
			s = "x+x"
			continue
		}
		s = "(" + s + ")+" + s
	}
	if got, err := print.Print(wide); got != s || err != api.OK {
		t.Errorf("%d bytes, not %d (%d)", len(got), len(s), err)
	}
	none(t, row(wide, list(x))...)
}

func TestWhatIsHandedInStays(t *testing.T) { // R3: also behind the list's end
	r := random(7)
	for range 1000 {
		l := append(r.spoilt(r.line(5)), api.Node{Kind: 9, Verb: "?"}, lit("01"))
		kept := apart(l)
		for cut := range len(l) + 1 {
			if _, err := print.Print(l[:cut]); !equal(l, kept) {
				t.Fatalf("%v is %v then (%d)", kept, l, err)
			}
		}
	}
}

func TestLinesStay(t *testing.T) { // R3: a line is shared with nothing that changes
	l := list(amend("a"), lit("1", "-2"), dyad("{", "'"), dyad("F", ""), x, y, name("b"), lit(nines(50)))
	want := "a[1 _2]:b{x F y}'" + nines(50)
	s, _ := print.Print(l)
	for i := range l {
		for j := range l[i].Nums {
			l[i].Nums[j] = "7"
		}
		l[i] = api.Node{}
	}
	if s != want {
		t.Errorf("%q, not %q", s, want)
	}
	none(t, l...)
}

func TestAnswersHangOnNothingElse(t *testing.T) { // R4, P1: asked again, the other way round, and side by side
	type answer struct {
		line string
		at   int
		err  api.Errno
	}
	r := random(9)
	var trees [][]api.Node
	var lines []string
	for range 2000 {
		l := r.line(5)
		trees, lines = append(trees, l, r.spoilt(l)), append(lines, r.loosely(l), r.loosely(l)+one(&r, []string{")", "+", "\"", ""}))
	}
	ask := func(i int) [2]answer {
		s, err := print.Print(trees[i])
		c, at, e := print.Canonical(lines[i])
		return [2]answer{{s, 0, err}, {c, at, e}}
	}
	var got [][2]answer
	for i := range trees {
		got = append(got, ask(i))
	}
	var group sync.WaitGroup
	for range 4 {
		group.Go(func() {
			for i := len(trees) - 1; i >= 0; i-- {
				if again := ask(i); again != got[i] {
					t.Errorf("%v and %q: %v, and then %v", short(trees[i]), lines[i], got[i], again)
				}
			}
		})
	}
	group.Wait()
}
