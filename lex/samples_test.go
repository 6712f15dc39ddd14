package lex_test

import (
	"regexp"
	"slices"
	"strings"

	"reredos/api"
	"reredos/lex"
)

// The bytes that the chapter lists, written out.
const (
	signs = "+-*%!&|<>=~,#^$?@"
	advs  = "'/\\.`"
	marks = "()[]{}:"
)

func nines(n int) string { return strings.Repeat("9", n) }

// single is a byte as a text.
func single(b int) string { return string([]byte{byte(b)}) }

// tok is a part, written short.
func tok(kind int, text string, at int) api.Tok { return api.Tok{Kind: kind, Text: text, At: at} }

// numbers are some, of all lengths and on either side of 0, as they are in figures; with an underscore in place of the hyphen they are the same, as parts.
func numbers() []string {
	l := []string{"0"}
	for _, s := range []string{"1", "2", "5", "9", "10", "42", "100", "101", "1000000000", "9223372036854775807", "9223372036854775808", "18446744073709551616", nines(99), nines(100), "1" + strings.Repeat("0", 98), "1" + strings.Repeat("0", 99)} {
		l = append(l, s, "-"+s)
	}
	for i := 10; i < 256; i += 7 {
		l = append(l, strings.Repeat(string(rune('1'+i%9)), 1+i%100))
	}
	return l
}

// literals are the same numbers, as parts.
func literals() []string {
	var l []string
	for _, n := range numbers() {
		l = append(l, strings.Replace(n, "-", "_", 1))
	}
	return l
}

// figuresThatAreNone are such as no number has, with an underscore and without one.
func figuresThatAreNone() []string {
	var l []string
	for _, s := range []string{"00", "01", "007", "000", "0123456789", strings.Repeat("0", 100), strings.Repeat("0", 101), "0" + nines(99), "0" + nines(100), nines(101), "1" + strings.Repeat("0", 100), nines(200)} {
		l = append(l, s, "_"+s)
	}
	return append(l, "_0")
}

// words are some, with all bytes that they may have.
func words() []string {
	return []string{"a", "z", "ab", "x", "a0", "a1b2", "z9", "a00", "a01", "abcdefghijklmnopqrstuvwxyz", "m0123456789", "q" + strings.Repeat("0", 120), "name", "in", "iota"}
}

// verbs are some, with all bytes that they may have.
func verbs() []string {
	return []string{"A", "Z", "F", "AB", "Ab", "A0", "F1a2B3", "Z9", "A00", "A01", "ABCDEFGHIJKLMNOPQRSTUVWXYZ", "Mabcdefghijklmnopqrstuvwxyz", "M0123456789", "Q" + strings.Repeat("0", 120), "Fxy", "FxY", "FXy9"}
}

// alone are parts of each kind, each with it.
func alone() []api.Tok {
	var l []api.Tok
	add := func(kind int, texts ...string) {
		for _, s := range texts {
			l = append(l, tok(kind, s, 0))
		}
	}
	add(lex.Num, literals()...)
	add(lex.Word, words()...)
	add(lex.Verb, verbs()...)
	add(lex.Sign, strings.Split(signs, "")...)
	add(lex.Adv, strings.Split(advs, "")...)
	add(lex.Mark, strings.Split(marks, "")...)
	return l
}

// The chapter's words once more, as patterns: part's groups are the kinds, in turn; number says which of what looks like a Num is one.
var (
	part   = regexp.MustCompile("^(?:(_?[0-9]+)|([a-z][a-z0-9]*)|([A-Z][a-zA-Z0-9]*)|([-+*%!&|<>=~,#^$?@])|(['/\\\\.`])|([()\\[\\]{}:]))")
	number = regexp.MustCompile(`\A(0|_?[1-9][0-9]{0,99})\z`)
)

// lexed is what Lex should tell.
func lexed(s string) ([]api.Tok, int, api.Errno) {
	if len(s) >= 257 {
		return nil, 0, api.ErrBig
	}
	var l []api.Tok
	for at := 0; at < len(s); {
		if s[at] == 32 {
			at++
			continue
		}
		m := part.FindStringSubmatch(s[at:])
		if m == nil || m[1] != "" && !number.MatchString(m[1]) {
			return nil, at, api.ErrForm
		}
		l = append(l, tok(slices.IndexFunc(m[1:], func(group string) bool { return group != "" })+1, m[0], at))
		at += len(m[0])
	}
	return l, 0, api.OK
}

// random is a row of numbers that is the same each time.
type random uint64

func (r *random) below(n int) int {
	*r = *r*6364136223846793005 + 1442695040888963407
	return int(uint64(*r)>>33) % n
}

// one is one of some.
func one[T any](r *random, l []T) T { return l[r.below(len(l))] }

// line is any: of parts mostly, of single bytes now and then, of up to some 300 bytes.
func (r *random) line() string {
	parts, wrong, room := alone(), figuresThatAreNone(), r.below(300)
	odd := r.below(3) == 0
	s := ""
	for len(s) < room {
		switch p := r.below(12); {
		case p < 3:
			s += strings.Repeat(" ", r.below(3))
		case p < 5:
			s += single('0' + r.below(10))
		case p < 7:
			s += one(r, strings.Split("aBzZ_x9", ""))
		case p == 7 && odd && r.below(5) == 0:
			s += single(r.below(256))
		case p == 8 && odd && r.below(5) == 0:
			s += one(r, wrong)
		default:
			s += one(r, parts).Text
		}
	}
	return s
}

// sound are parts in a row, with as many blanks behind each as are told, at least one.
func (r *random) sound(blanks func() int) string {
	parts := alone()
	s := ""
	for range 1 + r.below(20) {
		next := one(r, parts).Text
		if len(s)+len(next) > 240 {
			break
		}
		s += next + strings.Repeat(" ", blanks())
	}
	return s
}
