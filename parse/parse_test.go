package parse_test

import (
	"fmt"
	"math"
	"slices"
	"strings"
	"sync"
	"testing"

	"reredos/api"
	"reredos/lex"
	"reredos/parse"
	"reredos/tree"
)

// The calls, with the exact signatures that the chapter lists.
var (
	_ func(s string) ([]api.Node, int, api.Errno)             = parse.Parse
	_ func(l []api.Tok, end int) ([]api.Node, int, api.Errno) = parse.Toks
)

// means holds a line against the tree that it is.
func means(t *testing.T, s string, want ...api.Node) {
	t.Helper()
	tells(t, s, answer{want, 0, api.OK})
	if !tree.May(want) {
		t.Errorf("%q: %v may not be", s, want)
	}
}

// short is the begin of what is told of a fault, as there may be very many parts.
func short(v any) string {
	return fmt.Sprintf("%.400s", fmt.Sprint(v))
}

// fails holds a line against the error that it has, of its form, and where.
func fails(t *testing.T, s string, at int) {
	t.Helper()
	tells(t, s, answer{nil, at, api.ErrForm})
}

func tells(t *testing.T, s string, want answer) {
	t.Helper()
	l, at, err := parse.Parse(s)
	if got := (answer{l, at, err}); !got.same(want) {
		t.Errorf("Parse(%.300q): %s, not %s", s, short(got), short(want))
	}
	if err != api.OK && l != nil { // R1
		t.Errorf("Parse(%.300q): %s beside %d", s, short(l), err)
	}
}

// toksTell holds parts against what they should tell.
func toksTell(t *testing.T, l []api.Tok, end int, want answer) {
	t.Helper()
	got, at, err := parse.Toks(l, end)
	if a := (answer{got, at, err}); !a.same(want) {
		t.Errorf("Toks(%s, %d): %s, not %s", short(l), end, short(a), short(want))
	}
	if err != api.OK && got != nil { // R1
		t.Errorf("Toks(%s, %d): %s beside %d", short(l), end, short(got), err)
	}
	if err == api.OK && !tree.May(got) { // P9.3
		t.Errorf("Toks(%s, %d): %s may not be", short(l), end, short(got))
	}
}

// asMeant holds parts against the grammar, of which they have one tree at most.
func asMeant(t *testing.T, l []api.Tok, end int) answer {
	t.Helper()
	want, trees := meant(l, end)
	if trees > 1 {
		t.Errorf("%v: the grammar has %d trees for it", l, trees)
	}
	toksTell(t, l, end, want)
	return want
}

var (
	a, b, c, x, y = name("a"), name("b"), name("c"), name("x"), name("y")
	n1, n2, n3    = lit("1"), lit("2"), lit("3")
)

func TestExamples(t *testing.T) { // the chapter's
	means(t, "1 2+x", dyad("+", ""), lit("1", "2"), x)
	fails(t, "(", 1)
}

func TestNoPart(t *testing.T) { // P9.1, P9.2, R2: the end is where no line goes on
	for _, n := range []int{0, 1, 2, 3, 100, 255, 256} {
		fails(t, strings.Repeat(" ", n), n)
	}
	tells(t, strings.Repeat(" ", 257), answer{nil, 0, api.ErrBig})
	for _, l := range [][]api.Tok{nil, {}, make([]api.Tok, 0, 4)} {
		for _, end := range []int{math.MinInt, -7, -1, 0, 1, 5, 256, 1000, math.MaxInt} {
			toksTell(t, l, end, answer{nil, end, api.ErrForm})
		}
	}
}

func TestOnePart(t *testing.T) { // P9.1: of each Kind
	means(t, "1", n1)
	means(t, "0", lit("0"))
	means(t, "_5", lit("-5"))
	means(t, nines(100), lit(nines(100)))
	means(t, "_"+nines(100), lit("-"+nines(100)))
	means(t, "x", x)
	means(t, "a0b1", name("a0b1"))
	means(t, "w"+strings.Repeat("a", 255), name("w"+strings.Repeat("a", 255)))
	means(t, "  x  ", x)
	for _, s := range append(strings.Split(signs, ""), "F", "Fx1", "{", "(") { // a line may begin so
		fails(t, s, len(s))
		fails(t, " "+s+" ", len(s)+2)
	}
	for _, s := range append(strings.Split(advs, ""), ")", "[", "]", "}", ":") { // none does
		fails(t, s, 0)
		fails(t, "  "+s+" ", 2)
	}
}

func TestManyNums(t *testing.T) { // P9.1: 100 one behind the other at most
	many := func(n int) string { return strings.TrimSpace(strings.Repeat("1 ", n)) }
	for _, n := range []int{1, 2, 50, 99, 100} {
		l := lit(ones(n)...)
		means(t, many(n), l)
		means(t, "-"+many(n), monad("-", ""), l)
		means(t, many(n)+"+2", dyad("+", ""), l, n2)
		means(t, "2+"+many(n), dyad("+", ""), n2, l)
		means(t, "("+many(n)+")", l)
		means(t, "x["+many(n)+"]", index(), x, l)
		means(t, many(n)+"[2]", index(), l, n2)
		means(t, "{"+many(n)+"}2", monad("{", ""), l, n2)
		means(t, "a:"+many(n), assign("a"), l)
		means(t, "a["+many(n)+"]:2", amend("a"), l, n2)
		means(t, "a[2]:"+many(n), amend("a"), n2, l)
		means(t, "F:{"+many(n)+"}", define("F"), l)
	}
	for _, n := range []int{101, 102, 120} { // the first one too many is where no line goes on
		fails(t, many(n), 200)
		fails(t, many(n)+"+2", 200)
		fails(t, "2+"+many(n), 202)
		fails(t, "("+many(n)+")", 201)
		fails(t, "x["+many(n)+"]", 202)
		fails(t, "{"+many(n)+"}2", 201)
		fails(t, "a:"+many(n), 202)
		fails(t, "F:{"+many(n)+"}", 203)
	}
	for _, n := range []int{100, 101, 256, 1000, 100000} { // more than a line has
		l := toks(slices.Repeat([]string{"_1"}, n)...)
		want := answer{nil, 1000, api.ErrForm}
		if n == 100 {
			want = answer{list(lit(slices.Repeat([]string{"-1"}, 100)...)), 0, api.OK}
		}
		toksTell(t, l, -1, want)
	}
	hundred := slices.Repeat([]string{"1"}, 100) // as often as there is something between
	toksTell(t, toks(slices.Concat(hundred, []string{"+"}, hundred, []string{"["}, hundred, []string{"]"})...), 7, answer{list(dyad("+", ""), lit(ones(100)...), index(), lit(ones(100)...), lit(ones(100)...)), 0, api.OK})
	toksTell(t, toks(slices.Concat(hundred, []string{"a"})...), 7, answer{nil, 1000, api.ErrForm})
	toksTell(t, toks(slices.Concat([]string{"("}, hundred, []string{")", "1"})...), 7, answer{nil, 1020, api.ErrForm})
}

func TestNumsAreNumbers(t *testing.T) { // P9.1: a Lit of their numbers, in turn
	means(t, "1 _2 3", lit("1", "-2", "3"))
	means(t, "1_2_3", lit("1", "-2", "-3"))
	means(t, "0 0 10 _10", lit("0", "0", "10", "-10"))
	means(t, nines(100)+" _"+nines(100), lit(nines(100), "-"+nines(100)))
	means(t, "1 -2", dyad("-", ""), n1, n2)
	means(t, "1-_2", dyad("-", ""), n1, lit("-2"))
	means(t, "-_2", monad("-", ""), lit("-2"))
}

func TestForms(t *testing.T) { // P9.1: the line's four
	means(t, "a:1", assign("a"), n1)
	means(t, " a : 1 ", assign("a"), n1)
	means(t, "a:a", assign("a"), a)
	means(t, "a:-1 2", assign("a"), monad("-", ""), lit("1", "2"))
	means(t, "x:y+1", assign("x"), dyad("+", ""), y, n1)
	means(t, "a:b[1]", assign("a"), index(), b, n1)
	means(t, "a[1]:2", amend("a"), n1, n2)
	means(t, "a[b]:c", amend("a"), b, c)
	means(t, "a[b[1]]:c[2]", amend("a"), index(), b, n1, index(), c, n2)
	means(t, "a[1+b]:-2", amend("a"), dyad("+", ""), n1, b, monad("-", ""), n2)
	means(t, "F:{x}", define("F"), x)
	means(t, "F:{x+y}", define("F"), dyad("+", ""), x, y)
	means(t, "Fx1 : { -x } ", define("Fx1"), monad("-", ""), x)
	means(t, "F:{{x}1}", define("F"), monad("{", ""), x, n1)
	means(t, "F:{F x}", define("F"), monad("F", ""), x)
	means(t, "a", a)
	means(t, "a[1]", index(), a, n1)
	means(t, "a[1]+2", dyad("+", ""), index(), a, n1, n2)
	means(t, "a[1][2]", index(), index(), a, n1, n2)
	means(t, "a[1]F.2", dyad("F", "."), index(), a, n1, n2)
	means(t, "F 1", monad("F", ""), n1)
	means(t, "F a[1]", monad("F", ""), index(), a, n1)
	means(t, "F{x}1", monad("F", ""), monad("{", ""), x, n1)
}

func TestFormsAsNoLineGoesOn(t *testing.T) { // P9.1: with another part than they ask for, or one too many
	for s, at := range map[string]int{
		// Assign
		"a:": 2, "a: ": 3, "a::1": 2, "a:b:1": 3, "a:1:2": 3, "a:)": 2, "a:(1": 4, "a:1)": 3, "a:1]": 3, "a:1}": 3, "a:1 b": 4, "a:b 1": 4, "a:'1": 2, "1:2": 1, "+:2": 1, ":2": 0, "(a):1": 3, "a b:1": 2, "-a:1": 2, "1+a:1": 3, "(a:1)": 2, "a[b:1]": 3, "{a:1}2": 2, "a:{x}": 5, "a:b[1]:2": 6, "a:F:{x}": 3,
		// Amend
		"a[": 2, "a[]": 2, "a[]:1": 2, "a[1": 3, "a[1:": 3, "a[1:2": 3, "a[1):2": 3, "a[1}:2": 3, "a[1]:": 5, "a[1]::": 5, "a[1]:)": 5, "a[1]:2:": 6, "a[1]:2:3": 6, "a[1]:2]": 6, "a[1]:b 1": 7, "a[1]:b c": 7, "a[1][2]:3": 7, "a[1]+2:3": 6, "(a)[1]:2": 6, "(a[1]):2": 6, "1[1]:2": 4, "1 a[1]:2": 2, "-a[1]:2": 5, "F[1]:2": 1, "F a[1]:2": 6, "[1]:2": 0, "a:[1]": 2, "a[1]1": 4, "a[1]b": 4, "a[1](": 4, "a[1]'": 4, "a[1].": 4, "a[a[1]:2]:3": 6, "a[1]:a[1]:2": 9,
		// Define
		"F:": 2, "F: ": 3, "F:1": 2, "F:x": 2, "F:+": 2, "F:F": 2, "F:(x)": 2, "F:[x]": 2, "F::": 2, "F:}": 2, "F:'": 2, "F:{": 3, "F:{}": 3, "F:{x": 4, "F:{x)": 4, "F:{x]": 4, "F:{x:": 4, "F:{x:1}": 4, "F:{+}": 4, "F:{x}1": 5, "F:{x}x": 5, "F:{x}+": 5, "F:{x}+1": 5, "F:{x}'": 5, "F:{x}/": 5, "F:{x}[1]": 5, "F:{x}{y}": 5, "F:{x}}": 5, "F:{x}:": 5, "F:{x}F": 5, "F:{x}(": 5, "F:{x}'1": 5, "F:{F:{x}}": 4, "(F:{x})": 2, "F F:{x}": 3, "1 F:{x}": 3, "f:{x}": 5, "+:{x}": 1, "{x}:{y}": 3, "F':{x}": 2, "F/:{x}": 2, "F.:{x}": 1, "a:F:{x}1": 3,
		// an expr alone
		"a b": 2, "a 1": 2, "1 a": 2, "a(": 1, "1(": 1, "a)": 1, "a]": 1, "a}": 1, "a:b c": 4, "(a)b": 3, "(a)1": 3, "(a)(b)": 3, "a[1]2": 4, "a'": 1, "a.": 1, "a/": 1, "1'": 1, "1.2": 1, "'": 0, "/1": 0, "+)": 1, "+]": 1, "+}": 1, "+:": 1, "+[": 1, "1+": 2, "1+)": 2, "1+]": 2, "1+[": 2, "1+:": 2,
	} {
		fails(t, s, at)
		tells(t, s, parsed(s))
	}
}

// formed are lines of each form, as the texts of their parts.
func formed() [][]string {
	var l [][]string
	for _, s := range []string{
		"a : 1", "a : b + 1 2", "a : F / b", "a [ 1 ] : 2", "a [ b [ 1 ] ] : - c", "a [ 1 + b ] : { x } ' 2", "F : { x }", "F : { x + y }", "F : { { - x } ' y [ 1 ] }", "F : { ( x ) }",
		"1", "x", "1 2 3", "- 1", "+ / 1 2", "F ` x", "a + b", "a F . b", "1 2 + ' 3", "a { x + y } ' b", "{ x } \\ 1", "{ { x } y } 1", "( 1 )", "( ( 1 + 2 ) ) * ( x )", "a [ 1 ] [ 2 ]", "( a + b ) [ - 1 ] [ c [ 2 ] ]", "1 2 [ 0 ]", "- ~ * + 1", "a - b - c", "1 + { x } 2 + F ' 3",
	} {
		l = append(l, strings.Fields(s))
	}
	return l
}

func TestEachFormBrokenOff(t *testing.T) { // P9.1: behind each of its parts, with a part too many, without one, and with another one in its place
	others := append(alone(), "")
	for _, parts := range formed() {
		for cut := range len(parts) + 1 {
			asMeant(t, toks(parts[:cut]...), 777)
			for _, other := range others {
				asMeant(t, toks(slices.Insert(slices.Clone(parts), cut, other)...), 777)
				asMeant(t, toks(append(slices.Clone(parts[:cut]), other)...), 777)
				if cut < len(parts) {
					turned := slices.Clone(parts)
					turned[cut] = other
					asMeant(t, toks(turned...), 777)
				}
			}
			if cut < len(parts) {
				asMeant(t, toks(slices.Delete(slices.Clone(parts), cut, cut+1)...), 777)
			}
		}
	}
}

func TestVerbsAndAdvs(t *testing.T) { // P9.1: each verb as a Monad's and as a Dyad's, with no Adv, with each, and with such as may not stand there
	for _, verb := range append(strings.Split(signs, ""), "F", "Fx1", "{") {
		text, body := " "+verb+" ", []api.Node(nil)
		if verb == "{" {
			text, body = "{x+y}", list(dyad("+", ""), x, y)
		}
		for _, adv := range []string{"", "'", "/", "\\", "`", "."} {
			m, d := row(list(monad(verb, adv)), body, list(n1)), row(list(dyad(verb, adv)), body, list(a, n1))
			if adv == "." {
				fails(t, text+adv+"1", len(text))
				fails(t, "("+text+adv+"1)", len(text)+1)
			} else {
				means(t, text+adv+"1", m...)
				means(t, "("+text+" "+adv+" 1)", m...)
				means(t, "-"+text+adv+"1", row(list(monad("-", "")), m)...)
				means(t, "b+'"+text+adv+"1", row(list(dyad("+", "'"), b), m)...)
			}
			if strings.ContainsAny(adv, "/\\`") {
				fails(t, "a"+text+adv+"1", 1+len(text))
				fails(t, "a[1]"+text+adv+"1", 4+len(text))
				fails(t, "1 2"+text+adv+"1", 3+len(text))
				fails(t, "(a)"+text+adv+"1", 3+len(text))
			} else {
				means(t, "a"+text+adv+"1", d...)
				means(t, "(a)"+text+" "+adv+" 1", d...)
				means(t, "-a"+text+adv+"1", row(list(monad("-", "")), d)...)
				means(t, "b+'a"+text+adv+"1", row(list(dyad("+", "'"), b), d)...)
			}
			for _, more := range strings.Split(advs, "") { // an Adv behind an Adv
				if adv != "" {
					asMeant(t, toks(append(strings.Fields("a - "+verb), adv, more, "1")...), 5)
					asMeant(t, toks(append(strings.Fields("a "+verb), adv, more, "1")...), 5)
				}
			}
		}
	}
}

func TestVerbsBehindVerbs(t *testing.T) { // P9.1: those behind the first one are Monads'
	means(t, "--1", monad("-", ""), monad("-", ""), n1)
	means(t, "a--1", dyad("-", ""), a, monad("-", ""), n1)
	means(t, "a-'-/1", dyad("-", "'"), a, monad("-", "/"), n1)
	means(t, "F G-1", monad("F", ""), monad("G", ""), monad("-", ""), n1)
	means(t, "a F G 1", dyad("F", ""), a, monad("G", ""), n1)
	means(t, "FG 1", monad("FG", ""), n1)
	means(t, "{x}{y}1", monad("{", ""), x, monad("{", ""), y, n1)
	means(t, "a{x}{y}1", dyad("{", ""), x, a, monad("{", ""), y, n1)
	means(t, "a{x}'{y}'-'1", dyad("{", "'"), x, a, monad("{", "'"), y, monad("-", "'"), n1)
	means(t, "a-b-'c", dyad("-", ""), a, dyad("-", "'"), b, c)
}

func TestAdvsOutOfPlace(t *testing.T) { // P9.1: behind another one, ahead of all, and behind what is no verb
	for s, at := range map[string]int{
		"+//1": 2, "+/\\1": 2, "+''1": 2, "a+''1": 3, "a+..1": 3, "a+'.1": 3, "a+.'1": 3, "+'.1": 2, "F''1": 2, "{x}``1": 4, "a{x}..b": 5,
		"'": 0, "'+1": 0, "/1": 0, "`a": 0, ".": 0, ".+1": 0, "\\+/1": 0, " '1": 1, "(/1)": 1, "a[/1]": 2, "{/x}1": 1, "a:/1": 2, "a[1]:/2": 5, "F:{/x}": 3, "F:/{x}": 2,
		"1/2": 1, "a'b": 1, "a.b": 1, "(a)'b": 3, "a[1]'b": 4, "+1'": 2, "a+b/": 3, "a+b'c": 3, "+.1": 1, "F.1": 1, "{x}.1": 3, "a+/1": 2, "a F\\1": 3, "a{x}`1": 4, "-a/1": 2, "a+-.1": 3, "a-b+/c": 4, "(a)+/1": 4,
	} {
		fails(t, s, at)
		tells(t, s, parsed(s))
	}
}

func TestRightToLeft(t *testing.T) { // P9.1
	means(t, "1-2-3", dyad("-", ""), n1, dyad("-", ""), n2, n3)
	means(t, "(1-2)-3", dyad("-", ""), dyad("-", ""), n1, n2, n3)
	means(t, "1-(2-3)", dyad("-", ""), n1, dyad("-", ""), n2, n3)
	means(t, "1*2+3", dyad("*", ""), n1, dyad("+", ""), n2, n3)
	means(t, "1+2*3", dyad("+", ""), n1, dyad("*", ""), n2, n3)
	means(t, "-1-2", monad("-", ""), dyad("-", ""), n1, n2)
	means(t, "1--2", dyad("-", ""), n1, monad("-", ""), n2)
	means(t, "(-1)-2", dyad("-", ""), monad("-", ""), n1, n2)
	means(t, "1-2-3-x-y", dyad("-", ""), n1, dyad("-", ""), n2, dyad("-", ""), n3, dyad("-", ""), x, y)
}

func TestTerms(t *testing.T) { // P9.1: of Nums, of a Word, and in parentheses
	for text, term := range map[string][]api.Node{"1": list(n1), "1 2": list(lit("1", "2")), "a": list(a), "(a)": list(a), "((1))": list(n1), "(1 2)": list(lit("1", "2")), "(a+1)": list(dyad("+", ""), a, n1), "(-a)": list(monad("-", ""), a), "(a[1])": list(index(), a, n1), "a[1]": list(index(), a, n1), "(a)[1]": list(index(), a, n1), "1 2[1]": list(index(), lit("1", "2"), n1), "({x}1)": list(monad("{", ""), x, n1)} {
		means(t, text, term...)
		means(t, "-"+text, row(list(monad("-", "")), term)...)
		means(t, text+"+b", row(list(dyad("+", "")), term, list(b))...)
		means(t, "b+"+text, row(list(dyad("+", ""), b), term)...)
		means(t, text+"{y}'"+text, row(list(dyad("{", "'"), y), term, term)...)
		means(t, "("+text+")", term...)
		means(t, text+"["+text+"]", row(list(index()), term, term)...)
		means(t, "a:"+text, row(list(assign("a")), term)...)
		means(t, "a["+text+"]:"+text, row(list(amend("a")), term, term)...)
		means(t, "F:{"+text+"}", row(list(define("F")), term)...)
	}
}

func TestParentheses(t *testing.T) { // P9.1: they mean what is between them
	means(t, "((((x))))", x)
	means(t, "((a)+((b)))", dyad("+", ""), a, b)
	means(t, "((a+b)*(c-x))-y", dyad("-", ""), dyad("*", ""), dyad("+", ""), a, b, dyad("-", ""), c, x, y)
	means(t, "-(a+b)", monad("-", ""), dyad("+", ""), a, b)
	means(t, "(-a)+b", dyad("+", ""), monad("-", ""), a, b)
}

func TestParenthesesThatAreNot(t *testing.T) { // P9.1: empty, not opened, not closed, or closed by others
	for s, at := range map[string]int{
		"()": 1, "(())": 2, "( )": 2, "1+()": 3, "()+1": 1, "-()": 2, "a[()]": 3, "{()}1": 2,
		")": 0, "1)": 1, "(1))": 3, "1+2)": 3, ")(": 0, "1+)2": 2, "a[1)]": 3, "{x)}1": 2, "-)": 1,
		"(": 1, "((": 2, "(1": 2, "((1)": 4, "(1+2": 4, "(1+": 3, "1+(2": 4, "(-": 2, "({": 2, "({x": 3, "({x}": 4, "(a[": 3, "(a[1": 4,
		"(1]": 2, "(1}": 2, "(1:": 2, "({x)}": 3, "(a[1)]": 4, "(1+2]": 4, "(a:1)": 2, "(a)b": 3, "(a)1": 3, "(a)(b)": 3, "1(a)": 1, "1 2(3)": 3, "a(b)": 1, "a[1](b)": 4, "(1 2)3": 5, "(1)(": 3,
	} {
		fails(t, s, at)
		tells(t, s, parsed(s))
	}
}

func TestBrackets(t *testing.T) { // P9.1: from the left on, behind each kind of term
	means(t, "a[1]", index(), a, n1)
	means(t, "a [ 1 ] ", index(), a, n1)
	means(t, "1[2]", index(), n1, n2)
	means(t, "1 2 3[2]", index(), lit("1", "2", "3"), n2)
	means(t, "(a+b)[1]", index(), dyad("+", ""), a, b, n1)
	means(t, "a[1][2]", index(), index(), a, n1, n2)
	means(t, "a[1][2][3]", index(), index(), index(), a, n1, n2, n3)
	means(t, "(a[1])[2]", index(), index(), a, n1, n2)
	means(t, "a[b[c[1]]]", index(), a, index(), b, index(), c, n1)
	means(t, "a[b[1]][c[2]]", index(), index(), a, index(), b, n1, index(), c, n2)
	means(t, "a[1+2]", index(), a, dyad("+", ""), n1, n2)
	means(t, "a[-1]", index(), a, monad("-", ""), n1)
	means(t, "a[{x}1]", index(), a, monad("{", ""), x, n1)
	means(t, "-a[1]", monad("-", ""), index(), a, n1)
	means(t, "a+b[1]", dyad("+", ""), a, index(), b, n1)
	means(t, "a[1]+b", dyad("+", ""), index(), a, n1, b)
	means(t, "a[1]-b[2]-c[3]", dyad("-", ""), index(), a, n1, dyad("-", ""), index(), b, n2, index(), c, n3)
	means(t, "{x[1]}a[2]", monad("{", ""), index(), x, n1, index(), a, n2)
	for s, at := range map[string]int{
		"[": 0, "[1]": 0, "]": 0, "a[": 2, "a[]": 2, "a[[": 2, "a[[1]]": 2, "a]": 1, "a[1": 3, "a[1)": 3, "a[1}": 3, "a[1]]": 4, "a[1][": 5, "a[1][]": 5, "a[1]2": 4, "a[1]b": 4, "1[2]3": 4, "1 2[0]3": 6, "a[1](b)": 4, "-[1]": 1, "+/[1]": 2, "F[1]": 1, "F'[1]": 2, "{x}[1]": 3, "(a)[": 4, "a+[1]": 2, "([1])": 1, "a[1 b]": 4, "a[b 1]": 4, "a[1+]": 4, "a[b[1]": 6, "a[b[1)]": 5, "a[1]:": 5, "a[1][2]:3": 7, "b+a[1]:2": 6,
	} {
		fails(t, s, at)
		tells(t, s, parsed(s))
	}
}

func TestBodies(t *testing.T) { // P9.1: a body stands ahead of all else below its node
	means(t, "{x}1", monad("{", ""), x, n1)
	means(t, "1{x}2", dyad("{", ""), x, n1, n2)
	means(t, "{x+y}/1 2", monad("{", "/"), dyad("+", ""), x, y, lit("1", "2"))
	means(t, "a{x+y}.b", dyad("{", "."), dyad("+", ""), x, y, a, b)
	means(t, "{{x}y}1", monad("{", ""), monad("{", ""), x, y, n1)
	means(t, "{x{y}x}1", monad("{", ""), dyad("{", ""), y, x, x, n1)
	means(t, "a{b{x}'c}.1", dyad("{", "."), dyad("{", "'"), x, b, c, a, n1)
	means(t, "{{{1}2}3}x", monad("{", ""), monad("{", ""), monad("{", ""), n1, n2, n3, x)
	means(t, "{x}{y}1", monad("{", ""), x, monad("{", ""), y, n1)
	means(t, "{(x)}(1)", monad("{", ""), x, n1)
	means(t, "{x[1]}'a[2]", monad("{", "'"), index(), x, n1, index(), a, n2)
	means(t, "1{x}2{y}3", dyad("{", ""), x, n1, dyad("{", ""), y, n2, n3)
	means(t, "(1{x}2){y}3", dyad("{", ""), y, dyad("{", ""), x, n1, n2, n3)
	for s, at := range map[string]int{
		"{": 1, "{}": 1, "{}1": 1, "{x": 2, "{x}": 3, "{x}/": 4, "1{x}": 4, "1{x}'": 5, "1{": 2, "1{}2": 2, "}": 0, "x}": 1, "{x}}1": 3, "{x)1": 2, "{x]1": 2, "{x:1}1": 2, "{x}:1": 3, "{x}:": 3, "{x}.1": 3, "1{x}/2": 4, "{x}''1": 4, "{x}[1]": 3, "{x})": 3, "({x})": 4, "{{x}}1": 4, "{{x}1": 5, "{+}1": 2, "{+/}1": 3, "{F}1": 2, "{x y}1": 3, "{1 x}1": 3, "{x}1}": 4, "a[{x}]": 5, "{x}1 b": 5, "{(x}1)": 3,
	} {
		fails(t, s, at)
		tells(t, s, parsed(s))
	}
}

func TestErrorsPlaces(t *testing.T) { // P9.1: at the first part, at one between, at the last one, and at the end
	for s, at := range map[string]int{
		")1+2": 0, "  ]": 2, ": a": 0, "'/": 0, // the first
		"1+)2": 2, "a b + c": 2, "  ( 1 ]+ 2": 6, "+/1 2 x y": 6, "a:b:c": 3, // between
		"1+2)": 3, "1 2 3 x": 6, "a[1]  b": 6, "(1) 2": 4, "-~  :": 4, // the last
		"1+": 2, "(1+2": 4, "a:  ": 4, " F ": 3, "a[1]: ": 6, "{x": 2, "+/": 2, // the end
	} {
		fails(t, s, at)
		tells(t, s, parsed(s))
	}
}

// nest is how a line comes to have one level more: what stands ahead of the next level, what behind it, and at the innermost place; and the nodes for it.
type nest struct {
	what               string
	ahead, behind      string
	nodes, nodesBehind []api.Node
	levels             int // of the tree, by each
	inner              string
}

func nests() []nest {
	return []nest{
		{"verbs", "-", "", list(monad("-", "")), nil, 1, "x"},
		{"verbs with an Adv", "F/", "", list(monad("F", "/")), nil, 1, "x"},
		{"verbs behind a term", "1+", "", list(dyad("+", ""), n1), nil, 1, "x"},
		{"verbs behind parentheses", "(", ")+1", list(dyad("+", "")), list(n1), 1, "x"},
		{"parentheses", "(", ")", nil, nil, 0, "x"},
		{"brackets behind each other", "", "[1]", list(index()), list(n1), 1, "(x)"},
		{"brackets in brackets", "(a)[", "]", list(index(), a), nil, 1, "x"},
		{"bodies in bodies", "{", "}1", list(monad("{", "")), list(n1), 1, "x"},
		{"bodies behind bodies", "{1}", "", list(monad("{", ""), n1), nil, 1, "x"},
		{"bodies behind terms", "1{", "}2", list(dyad("{", "")), list(n1, n2), 1, "x"},
	}
}

// deep is a line of so many levels more, and its tree.
func (n nest) deep(levels int) (string, []api.Node) {
	return strings.Repeat(n.ahead, levels) + n.inner + strings.Repeat(n.behind, levels), row(slices.Repeat(n.nodes, levels), list(x), slices.Repeat(n.nodesBehind, levels))
}

// split is a line as parts, however long it is, each at the place where it stands.
func split(s string) []api.Tok {
	var l []api.Tok
	at := 0
	for len(s) > at {
		cut := min(len(s)-at, 200)
		for at+cut < len(s) && glues(s[at+cut]) && glues(s[at+cut-1]) {
			cut--
		}
		parts, _, _ := lex.Lex(s[at : at+cut])
		for _, p := range parts {
			l = append(l, tok(p.Kind, p.Text, p.At+at))
		}
		at += cut
	}
	return l
}

func TestDepths(t *testing.T) { // P9.1: 40 at most, by whatever there are levels
	for _, n := range nests() {
		for levels := 1; levels <= 45; levels++ {
			s, l := n.deep(levels)
			for _, c := range []struct {
				ahead, behind string
				nodes, last   []api.Node
				more          int
			}{{"", "", nil, nil, 0}, {"a:", "", list(assign("a")), nil, 1}, {"a[1]:", "", list(amend("a"), n1), nil, 1}, {"a[", "]:1", list(amend("a")), list(n1), 1}, {"F:{", "}", list(define("F")), nil, 1}, {"-(", ")", list(monad("-", "")), nil, 1}, {"(", ")-1", list(dyad("-", "")), list(n1), 1}, {"a[", "]", list(index(), a), nil, 1}} {
				line := c.ahead + s + c.behind
				want := answer{row(c.nodes, l, c.last), 0, api.OK}
				if levels*n.levels+1+c.more > 40 {
					want = answer{nil, 0, api.ErrDeep}
				}
				toksTell(t, split(line), len(line), want)
				if len(line) <= 256 {
					tells(t, line, want)
				}
			}
		}
	}
}

func TestDepthsNamed(t *testing.T) { // P9.1: 39, 40 and 41, written out
	for levels, want := range map[int]api.Errno{39: api.OK, 40: api.OK, 41: api.ErrDeep} {
		for _, s := range []string{
			strings.Repeat("-", levels-1) + "1", strings.Repeat("1+", levels-1) + "1", strings.Repeat("(", levels-1) + "1" + strings.Repeat(")+1", levels-1), "(1)" + strings.Repeat("[0]", levels-1), strings.Repeat("x[", levels-1) + "0" + strings.Repeat("]", levels-1), strings.Repeat("{", levels-1) + "x" + strings.Repeat("}1", levels-1), strings.Repeat("{x}", levels-1) + "1",
			"a:" + strings.Repeat("-", levels-2) + "1", "a[0]:" + strings.Repeat("-", levels-2) + "1", "a[" + strings.Repeat("-", levels-2) + "1]:0", "F:{" + strings.Repeat("-", levels-2) + "x}", "{" + strings.Repeat("-", levels-2) + "x}1", "1{" + strings.Repeat("-", levels-2) + "x}1", "(" + strings.Repeat("-", levels-2) + "1)+" + "1",
		} {
			l, at, err := parse.Parse(s)
			if err != want || at != 0 || (want == api.OK) != (tree.Depth(l) == levels) || (want == api.OK) != tree.May(l) || want != api.OK && l != nil {
				t.Errorf("%q: %v, %d, %d; not %d", s, l, at, err, want)
			}
		}
	}
	means(t, strings.Repeat("(", 127)+"x"+strings.Repeat(")", 127), x) // parentheses are no level
	means(t, strings.Repeat("(", 63)+"-1"+strings.Repeat(")", 63), monad("-", ""), n1)
}

func TestFormAheadOfDepth(t *testing.T) { // P9.1, R1: what has both is told as ErrForm, wherever that is
	deep := strings.Repeat("-", 60) + "1"
	tells(t, deep, answer{nil, 0, api.ErrDeep})
	for _, c := range []struct {
		s  string
		at int
	}{
		{deep + ")", 61}, {deep + " x", 62}, {"(" + deep, 62}, {deep + "+", 62}, {deep + "/", 61}, {deep + ":", 61}, {")" + deep, 0}, {"x(" + deep, 1}, {"x[" + deep, 63}, {"x[" + deep + "]]", 64}, {"(" + deep + ")1", 63}, {"F:{" + deep + "}1", 65}, {"F:{" + deep + "}[1]", 65}, {"F:{" + deep + "}+1", 65}, {"F:{" + deep, 64}, {"a[" + deep + "]:", 65}, {"a[" + deep + "]:1:", 66}, {"{" + deep + "}", 63}, {"{" + deep + "}.1", 63}, {"1{" + deep + "}/1", 64}, {"1 x" + deep, 2},
		{strings.Repeat("(", 100) + deep + strings.Repeat(")", 90), 251}, {deep + "[", 62}, {deep + "[0]1", 64}, {deep + "[0]:1", 64},
	} {
		fails(t, c.s, c.at)
		tells(t, c.s, parsed(c.s))
	}
	for _, s := range []string{deep + "[0]", deep + "+x", "a:" + deep, "a[" + deep + "]:1", "a[" + deep + "]", "a[1]:" + deep, "F:{" + deep + "}", "(" + deep + ")", "{" + deep + "}1", "1{" + deep + "}.1", "x[" + deep + "][2]", "1+" + deep, "(" + deep + ")+" + deep} {
		tells(t, s, answer{nil, 0, api.ErrDeep})
		tells(t, s, parsed(s))
	}
}

func TestLongLines(t *testing.T) { // P9.2: 256 bytes at most
	for _, c := range []struct {
		begin string
		want  []api.Node
	}{{"x", list(x)}, {"1 2+x", list(dyad("+", ""), lit("1", "2"), x)}, {"a[1]:(2)", list(amend("a"), n1, n2)}, {"F:{x}", list(define("F"), x)}} {
		for _, n := range []int{200, 254, 255, 256} {
			means(t, c.begin+strings.Repeat(" ", n-len(c.begin)), c.want...)
			means(t, strings.Repeat(" ", n-len(c.begin))+c.begin, c.want...)
			fails(t, c.begin+strings.Repeat(" ", n-len(c.begin)-1)+")", n-1)
			fails(t, "("+strings.Repeat(" ", n-1), n)
		}
		for _, n := range []int{257, 258, 300, 1000, 1 << 20} {
			for _, s := range []string{c.begin + strings.Repeat(" ", n-len(c.begin)), strings.Repeat(" ", n-len(c.begin)) + c.begin, c.begin + strings.Repeat(")", n-len(c.begin)), strings.Repeat("\"", n)} {
				tells(t, s, answer{nil, 0, api.ErrBig})
			}
		}
	}
	parentheses := func(n int) string { return strings.Repeat("(", n) + "x" + strings.Repeat(")", n) }
	means(t, parentheses(127), x) // 255
	means(t, parentheses(127)+" ", x)
	means(t, "("+parentheses(126)+")", x)
	tells(t, parentheses(128), answer{nil, 0, api.ErrBig}) // 257
	means(t, "w"+strings.Repeat("b", 255), name("w"+strings.Repeat("b", 255)))
	tells(t, "w"+strings.Repeat("b", 256), answer{nil, 0, api.ErrBig})
	means(t, "V"+strings.Repeat("b", 253)+" 1", monad("V"+strings.Repeat("b", 253), ""), n1)
	fails(t, strings.Repeat("-", 255), 255)
	fails(t, strings.Repeat("-", 256), 256)
	tells(t, strings.Repeat("-", 255)+"1", answer{nil, 0, api.ErrDeep})
}

func TestLexErrors(t *testing.T) { // P9.2: with their place, also where the form is wrong ahead of it
	for s, at := range map[string]int{
		"\"": 0, "1+\"": 2, "1+;2": 2, "01": 0, "1+01": 2, "_": 0, "x _0": 2, "a\t": 1, "a:\n1": 2, "é": 0, "x\xff": 1, nines(101): 0, "x+" + nines(101): 2,
		")\"": 1, ") 01": 2, "1 x ( _": 6, "a b c ;": 6, "::;": 2, "(;": 1, "F:{x}1;": 6, strings.Repeat("-", 60) + "1;": 61,
	} {
		fails(t, s, at)
		if _, want, err := lex.Lex(s); at != want || err != api.ErrForm {
			t.Errorf("Lex(%q): %d, %d", s, want, err)
		}
	}
}

func TestEndAndPlacesOfAnyKind(t *testing.T) { // P9.1, R5: At and end may be any, and are told as they are
	ends := []int{math.MinInt, -1000, -1, 0, 1, 3, 256, 257, 100000, math.MaxInt}
	for _, parts := range formed() {
		for k, end := range ends {
			l := toks(parts...)
			for i := range l {
				l[i].At = ends[(i*3+k)%len(ends)]
			}
			if got := asMeant(t, l, end); got.err != api.OK {
				t.Errorf("%v has an error", parts)
			}
			for cut := range parts {
				asMeant(t, l[:cut], end)
				asMeant(t, slices.Concat(l[:cut], []api.Tok{tok(lex.Mark, ":", end)}, l[cut:]), 5)
				asMeant(t, slices.Concat(l[:cut], []api.Tok{tok(lex.Num, "1", end), tok(lex.Word, "x", end-1)}, l[cut:]), -5)
			}
		}
	}
	l := []api.Tok{tok(lex.Num, "1", 7), tok(lex.Sign, "+", 7), tok(lex.Mark, ")", -3), tok(lex.Mark, ")", 9)}
	toksTell(t, l, 100, answer{nil, -3, api.ErrForm})
	toksTell(t, l[:2], -100, answer{nil, -100, api.ErrForm})
	toksTell(t, l[:1], -100, answer{list(n1), 0, api.OK})
	toksTell(t, []api.Tok{tok(lex.Mark, ")", 0)}, 8, answer{nil, 0, api.ErrForm})
}

func TestPartsThatAreNone(t *testing.T) { // P9.1, R5: no line goes on with them, wherever they stand
	kinds := []int{math.MinInt, -6, -2, -1, 0, 1, 2, 3, 4, 5, 6, 7, 8, 12, 256 + 1, 1<<32 + 2, math.MaxInt}
	texts := append(alone(), "", " ", "  ", "_", "__1", "-1", "-", "01", "00", "_0", "1 ", " 1", "1 2", "1a", "1_", nines(101), "_"+nines(101), "x ", " x", "x y", "xY", "x_", "a\n", "é", "x;", "F ", " F", "F G", "F_", "Fé", "++", "+ ", " +", "+1", "-x", "''", "' ", "/\\", "//", "((", "( ", " (", "()", "[]", "{}", "::", ":1", "a:", ";", "\"", "\x00", "\xff", "\n", "w"+strings.Repeat("a", 256), "V"+strings.Repeat("B", 256), strings.Repeat("1", 300), strings.Repeat("+", 300), strings.Repeat("(", 300), strings.Repeat(" ", 300), "w"+strings.Repeat("a", 1<<20))
	surroundings := [][2][]string{{nil, nil}, {nil, {"1"}}, {{"1"}, nil}, {{"1"}, {"2"}}, {{"-"}, nil}, {{"a", "+"}, {"b"}}, {{"("}, {")"}}, {{"a"}, {"1", "]"}}, {{"a", "[", "1"}, {":", "2"}}, {{"a", "[", "1", "]"}, {"2"}}, {{"a"}, {"1"}}, {nil, {":", "1"}}, {{"F", ":"}, {"x", "}"}}, {{"F", ":", "{", "x"}, nil}, {{"{", "x"}, {"1"}}, {{"+"}, {"1"}}, {{"a", "+"}, {"1"}}}
	sound := 0
	for _, kind := range kinds {
		for _, text := range texts {
			part := tok(kind, text, 1234)
			p, ok := patterns[kind]
			ok = ok && p.MatchString(text)
			for _, s := range surroundings {
				l := slices.Concat(toks(s[0]...), []api.Tok{part}, toks(s[1]...))
				got := asMeant(t, l, 99)
				if !ok && (got.err != api.ErrForm || got.at != 1234) {
					t.Errorf("%s: %s", short(l), short(got))
				}
				if got.err == api.OK {
					sound++
				}
			}
		}
	}
	if sound < 100 {
		t.Errorf("%d rows of parts are lines", sound)
	}
	for _, l := range [][]api.Tok{ // the first one of several
		{tok(lex.Word, "x", 3), tok(0, "+", 4), tok(9, "", 5)}, {tok(lex.Word, "x", 3), tok(lex.Word, "+", 4), tok(lex.Num, "x", 5)}, {tok(lex.Word, "x", 3), tok(lex.Word, "y", 4), tok(7, "x", 5)}, {tok(lex.Num, "1", 3), tok(lex.Num, "01", 4), tok(lex.Num, "_", 5)},
	} {
		toksTell(t, l, 50, answer{nil, 4, api.ErrForm})
	}
}

// pieces are a part of each sort that the grammar tells apart.
var pieces = []string{"1", "a", "F", "+", "'", "/", ".", "(", ")", "[", "]", "{", "}", ":"}

// growOn goes on from parts with which a line may go on, by all pieces, and again, so many parts on.
func growOn(t *testing.T, parts []string, more int, told map[api.Errno]int) {
	for _, piece := range pieces {
		if t.Failed() {
			return
		}
		l := append(slices.Clip(parts), piece)
		row := toks(l...)
		got := asMeant(t, row, 10*len(row))
		told[got.err]++
		if got.err == api.ErrForm && got.at < 10*len(row) { // whatever stands behind it
			if got.at != 10*len(parts) {
				t.Errorf("%v: no line goes on with the part at %d, but with the one behind it", l, got.at)
			}
			for _, behind := range [][]string{{"1"}, {")", "x", "}"}, {":", "1"}, {"+", "1"}, {"", "01"}} {
				toksTell(t, toks(append(slices.Clip(l), behind...)...), 7, got)
			}
		} else if more > 1 {
			growOn(t, l, more-1, told)
		}
	}
}

func TestAllShortLines(t *testing.T) { // P9.1, P9.3: held against the grammar, as far as a line goes on
	told := map[api.Errno]int{}
	growOn(t, nil, 6, told)
	if told[api.OK] < 1000 || told[api.ErrForm] < 10000 {
		t.Errorf("too few of a kind: %v", told)
	}
}

func TestFirstPartsOfLines(t *testing.T) { // P9.1: what no line goes on with does not hang on what is behind it
	r := random(1)
	for range 3000 {
		parts := r.spoilt(r.line(4).parts)
		l := toks(parts...)
		want := asMeant(t, l, -1)
		if want.err != api.ErrForm || want.at < 0 {
			continue
		}
		upTo := l[:want.at/10+1]
		toksTell(t, upTo, -1, want)
		toksTell(t, upTo[:len(upTo)-1], -1, meantOf(upTo[:len(upTo)-1]))
		toksTell(t, slices.Concat(upTo, toks(r.line(3).parts...)), -1, want)
		toksTell(t, slices.Concat(upTo, toks(one(&r, alone()), one(&r, alone()))), -1, want)
	}
}

// meantOf is what Toks should tell of parts that end at -1.
func meantOf(l []api.Tok) answer {
	a, _ := meant(l, -1)
	return a
}

func TestWrittenTrees(t *testing.T) { // P9.1, P9.2: trees are told as they were written, with any blanks
	r, long := random(3), 0
	for range 5000 {
		w := r.line(1 + r.below(6))
		toksTell(t, toks(w.parts...), -1, answer{w.l, 0, api.OK})
		for _, blanks := range []int{0, 1, 3} {
			s := r.joined(w.parts, blanks)
			if len(s) > 256 {
				tells(t, s, answer{nil, 0, api.ErrBig})
				long++
				continue
			}
			tells(t, s, answer{w.l, 0, api.OK})
		}
		if joined := strings.Join(w.parts, " "); len(joined) <= 256 {
			tells(t, joined, answer{w.l, 0, api.OK})
		}
	}
	if long < 100 {
		t.Errorf("%d lines are too long", long)
	}
}

func TestSpoiltLines(t *testing.T) { // P9.1, P9.3: with something turned, left out, or too much
	r := random(5)
	told := map[api.Errno]int{}
	for range 10000 {
		parts := r.spoilt(r.line(1 + r.below(5)).parts)
		told[asMeant(t, toks(parts...), 12345).err]++
	}
	if told[api.OK] < 500 || told[api.ErrForm] < 5000 {
		t.Errorf("too few of a kind: %v", told)
	}
}

// treeOrPlace holds a line against P9.3: a tree that may be, or an error at a place in it, or at its end.
func treeOrPlace(t *testing.T, s string) api.Errno {
	t.Helper()
	l, at, err := parse.Parse(s)
	switch {
	case err == api.OK && (at != 0 || !tree.May(l)), err != api.OK && l != nil, at < 0 || at > len(s), err == api.ErrDeep && at != 0, err == api.ErrBig && (at != 0 || len(s) <= 256):
		t.Errorf("%q: %v, %d, %d", s, l, at, err)
	}
	tells(t, s, parsed(s))
	return err
}

func TestAnyLine(t *testing.T) { // P9.3, P1: of any parts and bytes
	r := random(7)
	told := map[api.Errno]int{}
	for range 20000 {
		s := ""
		for room := r.below(40); len(s) < room; {
			if r.below(60) == 0 {
				s += string([]byte{byte(r.below(256))})
				continue
			}
			s += one(&r, []string{" ", one(&r, alone()), one(&r, pieces)})
		}
		told[treeOrPlace(t, s)]++
	}
	for range 3000 {
		b := make([]byte, r.below(6))
		for i := range b {
			b[i] = byte(r.below(256))
		}
		treeOrPlace(t, string(b))
	}
	for n := range 300 {
		for _, s := range []string{"-", "(", "1+", "{x}", "a["} {
			told[treeOrPlace(t, strings.Repeat(s, n)+"1")]++
		}
	}
	for b := range 256 {
		c := string([]byte{byte(b)})
		for _, s := range []string{c, c + "1", "1" + c, "1" + c + "2", "a" + c + "b", "F" + c, c + c, "(" + c + ")", "a[" + c + "]", "a" + c + ":1", "{" + c + "}1", "+" + c + "1", "F:" + c} {
			treeOrPlace(t, s)
		}
	}
	if told[api.OK] < 300 || told[api.ErrForm] < 5000 || told[api.ErrDeep] < 100 || told[api.ErrBig] < 100 {
		t.Errorf("too few of a kind: %v", told)
	}
}

func TestManyLevels(t *testing.T) { // P1: parts of 2^16 levels, and very many parts, are soon gone through
	const levels = 1 << 16
	for _, n := range nests() {
		s, l := n.deep(levels)
		want := answer{nil, 0, api.ErrDeep}
		if n.levels == 0 {
			want = answer{l, 0, api.OK}
		}
		parts := split(s)
		toksTell(t, parts, -1, want)
		toksTell(t, append(parts, tok(lex.Mark, ")", -3)), -1, answer{nil, -3, api.ErrForm})
		if n.behind == "" {
			toksTell(t, parts[:len(parts)-1], -1, answer{nil, -1, api.ErrForm})
		}
	}
	for _, s := range []string{"(", "-", "{", "a[", "1+", "F", "(-a[{"} { // and as many that are never closed
		toksTell(t, split(strings.Repeat(s+" ", levels)), -1, answer{nil, -1, api.ErrForm})
	}
	wide, l := "x", list(x) // 12 levels of two below each
	for range 12 {
		wide, l = "("+wide+")+"+wide, row(list(dyad("+", "")), l, l)
	}
	toksTell(t, split(wide), -1, answer{l, 0, api.OK})
}

func TestWhatIsHandedInStays(t *testing.T) { // R3: no part is turned, also behind the list's end
	r := random(9)
	for range 500 {
		l := append(toks(r.line(4).parts...), tok(9, "?!", -4), tok(lex.Num, "01", 2))
		kept := slices.Clone(l)
		for cut := range len(l) + 1 {
			if _, _, err := parse.Toks(l[:cut], 3); !slices.Equal(l, kept) {
				t.Fatalf("%v is %v then (%d)", kept, l, err)
			}
		}
	}
}

func TestTreesShareNothing(t *testing.T) { // R3, R4: neither with the parts, nor with each other, nor within
	const s = "a[1 2 3]:({x+4 5 6}'7 8)[9 10]"
	parts, _, _ := lex.Lex(s)
	first, _, _ := parse.Toks(parts, len(s))
	second, _, _ := parse.Parse(s)
	want := list(amend("a"), lit("1", "2", "3"), index(), monad("{", "'"), dyad("+", ""), x, lit("4", "5", "6"), lit("7", "8"), lit("9", "10"))
	for i := range parts {
		parts[i] = tok(7, "?", -1)
	}
	if !equal(first, want) || !equal(second, want) {
		t.Fatalf("%v and %v", first, second)
	}
	for i := range first {
		kept := apart(first)
		for j := range first[i].Nums {
			first[i].Nums[j] = "?"
		}
		first[i].Nums = append(first[i].Nums, "?")
		first[i].Verb, first[i].Name = "?", "?"
		for j := range first {
			if j != i && !equal(first[j:j+1], kept[j:j+1]) {
				t.Errorf("node %d was turned with node %d", j, i)
			}
		}
	}
	_ = append(first, n1)
	if !equal(second, want) {
		t.Errorf("%v, not %v", second, want)
	}
	means(t, s, want...)
}

func TestAnswersHangOnNothingElse(t *testing.T) { // R4, P1: asked again, the other way round, and side by side
	r := random(11)
	var lines []string
	for range 2000 {
		lines = append(lines, r.joined(r.line(5).parts, 2), r.joined(r.spoilt(r.line(5).parts), 1))
	}
	ask := func(s string) answer {
		l, at, err := parse.Parse(s)
		return answer{l, at, err}
	}
	var got []answer
	for _, s := range lines {
		got = append(got, ask(s))
	}
	var group sync.WaitGroup
	for range 4 {
		group.Go(func() {
			for i := len(lines) - 1; i >= 0; i-- {
				if a := ask(lines[i]); !a.same(got[i]) {
					t.Errorf("%q: %v, and then %v", lines[i], got[i], a)
				}
			}
		})
	}
	group.Wait()
}
