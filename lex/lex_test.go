package lex_test

import (
	"slices"
	"strings"
	"sync"
	"testing"

	"reredos/api"
	"reredos/lex"
	"reredos/num"
)

// The calls, with the exact signatures that the chapter lists; the kinds are constants without a type.
var (
	_ func(s string) ([]api.Tok, int, api.Errno) = lex.Lex
	_ func(s string) (string, bool)              = lex.Number
	_ func(n string) (string, bool)              = lex.Literal
	_ func(l []api.Tok) string                   = lex.Join

	_ [6]float64 = [lex.Mark]float64{lex.Num, lex.Word, lex.Verb, lex.Sign, lex.Adv, lex.Mark}
)

func TestKinds(t *testing.T) {
	if got := [...]int{lex.Num, lex.Word, lex.Verb, lex.Sign, lex.Adv, lex.Mark}; got != [...]int{1, 2, 3, 4, 5, 6} {
		t.Errorf("the kinds are %v", got)
	}
}

// reads holds Lex against what it should tell.
func reads(t *testing.T, s string, want []api.Tok, wantAt int, wantErr api.Errno) {
	t.Helper()
	if got, at, err := lex.Lex(s); !slices.Equal(got, want) || at != wantAt || err != wantErr {
		t.Errorf("Lex(%q): %v, %d, %d; not %v, %d, %d", s, got, at, err, want, wantAt, wantErr)
	}
}

// parted holds Lex against the chapter's words, as patterns.
func parted(t *testing.T, s string) {
	t.Helper()
	want, at, err := lexed(s)
	reads(t, s, want, at, err)
}

func TestExample(t *testing.T) { // the chapter's
	reads(t, "_5+ab", []api.Tok{tok(lex.Num, "_5", 0), tok(lex.Sign, "+", 2), tok(lex.Word, "ab", 3)}, 0, api.OK)
}

func TestNothing(t *testing.T) { // P7.1: no part is in a line without bytes, or of blanks alone
	for _, n := range []int{0, 1, 2, 3, 100, 254, 255, 256} {
		reads(t, strings.Repeat(" ", n), nil, 0, api.OK)
	}
}

func TestEachPartAlone(t *testing.T) { // P7.1: each kind, also with blanks ahead and behind
	for _, p := range alone() {
		for _, ahead := range []int{0, 1, 2, 9} {
			for _, behind := range []int{0, 1, 2, 9} {
				s := strings.Repeat(" ", ahead) + p.Text + strings.Repeat(" ", behind)
				reads(t, s, []api.Tok{tok(p.Kind, p.Text, ahead)}, 0, api.OK)
			}
		}
	}
}

func TestSingleBytes(t *testing.T) { // P7.1: what each byte is alone, of all 256, and that 29 are listed
	listed := 0
	for b := range 256 {
		s, kind := single(b), 0
		switch {
		case strings.Contains(signs, s):
			kind = lex.Sign
		case strings.Contains(advs, s):
			kind = lex.Adv
		case strings.Contains(marks, s):
			kind = lex.Mark
		case b >= 48 && b <= 57:
			kind = lex.Num
		case b >= 97 && b <= 122:
			kind = lex.Word
		case b >= 65 && b <= 90:
			kind = lex.Verb
		}
		switch {
		case b == 32:
			reads(t, s, nil, 0, api.OK)
		case kind == 0:
			reads(t, s, nil, 0, api.ErrForm)
		default:
			reads(t, s, []api.Tok{tok(kind, s, 0)}, 0, api.OK)
		}
		if kind >= lex.Sign {
			listed++
		}
	}
	if listed != 17+5+7 {
		t.Errorf("%d bytes are parts of one byte", listed)
	}
}

func TestBytesBeside(t *testing.T) { // P7.1: every byte ahead of a part, behind one, between two, and two of them
	for b := range 256 {
		c := single(b)
		for _, p := range []string{"7", "_5", "0", "ab", "a1", "F", "Fx2", "+", "-", "/", ".", "`", "(", "}", ":", " "} {
			for _, s := range []string{c + p, p + c, c + " " + p, p + " " + c, p + c + p, p + " " + c + " " + p, c + p + c, p + c + "7", p + c + "x", p + c + "X", p + c + "+", c + c + p, p + c + c} {
				parted(t, s)
			}
		}
		for d := range 256 {
			parted(t, c+single(d))
		}
	}
}

// row is a line, and its parts.
type row struct {
	s    string
	want []api.Tok
}

func rows() []row {
	const n, w, v, s, a, m = lex.Num, lex.Word, lex.Verb, lex.Sign, lex.Adv, lex.Mark
	return []row{
		// each as long as it goes
		{"12", []api.Tok{tok(n, "12", 0)}}, {"1 2", []api.Tok{tok(n, "1", 0), tok(n, "2", 2)}}, {"1_2", []api.Tok{tok(n, "1", 0), tok(n, "_2", 1)}}, {"_1_2", []api.Tok{tok(n, "_1", 0), tok(n, "_2", 2)}}, {"0_1", []api.Tok{tok(n, "0", 0), tok(n, "_1", 1)}}, {"10 0 10", []api.Tok{tok(n, "10", 0), tok(n, "0", 3), tok(n, "10", 5)}},
		{"ab", []api.Tok{tok(w, "ab", 0)}}, {"a b", []api.Tok{tok(w, "a", 0), tok(w, "b", 2)}}, {"a1b", []api.Tok{tok(w, "a1b", 0)}}, {"a_1", []api.Tok{tok(w, "a", 0), tok(n, "_1", 1)}}, {"a01", []api.Tok{tok(w, "a01", 0)}}, {"a1_1", []api.Tok{tok(w, "a1", 0), tok(n, "_1", 2)}},
		{"1a", []api.Tok{tok(n, "1", 0), tok(w, "a", 1)}}, {"1A", []api.Tok{tok(n, "1", 0), tok(v, "A", 1)}}, {"_1a1", []api.Tok{tok(n, "_1", 0), tok(w, "a1", 2)}}, {"0a", []api.Tok{tok(n, "0", 0), tok(w, "a", 1)}}, {"1e5", []api.Tok{tok(n, "1", 0), tok(w, "e5", 1)}}, {"0x10", []api.Tok{tok(n, "0", 0), tok(w, "x10", 1)}}, {"1.5", []api.Tok{tok(n, "1", 0), tok(a, ".", 1), tok(n, "5", 2)}}, {"1,0", []api.Tok{tok(n, "1", 0), tok(s, ",", 1), tok(n, "0", 2)}},
		{"aB", []api.Tok{tok(w, "a", 0), tok(v, "B", 1)}}, {"aBc1D", []api.Tok{tok(w, "a", 0), tok(v, "Bc1D", 1)}}, {"Ba", []api.Tok{tok(v, "Ba", 0)}}, {"BaC d", []api.Tok{tok(v, "BaC", 0), tok(w, "d", 4)}}, {"a1B1a B", []api.Tok{tok(w, "a1", 0), tok(v, "B1a", 2), tok(v, "B", 6)}}, {"F_1", []api.Tok{tok(v, "F", 0), tok(n, "_1", 1)}}, {"F01", []api.Tok{tok(v, "F01", 0)}}, {"aF1_1a", []api.Tok{tok(w, "a", 0), tok(v, "F1", 1), tok(n, "_1", 3), tok(w, "a", 5)}},
		// those of one byte are never longer; the hyphen is a Sign, whatever is behind it
		{"++", []api.Tok{tok(s, "+", 0), tok(s, "+", 1)}}, {"<=", []api.Tok{tok(s, "<", 0), tok(s, "=", 1)}}, {"//", []api.Tok{tok(a, "/", 0), tok(a, "/", 1)}}, {"((", []api.Tok{tok(m, "(", 0), tok(m, "(", 1)}}, {"-5", []api.Tok{tok(s, "-", 0), tok(n, "5", 1)}}, {"5-5", []api.Tok{tok(n, "5", 0), tok(s, "-", 1), tok(n, "5", 2)}}, {"-_5", []api.Tok{tok(s, "-", 0), tok(n, "_5", 1)}}, {"-0", []api.Tok{tok(s, "-", 0), tok(n, "0", 1)}}, {"::", []api.Tok{tok(m, ":", 0), tok(m, ":", 1)}},
		// whole lines
		{"a:1 2 3", []api.Tok{tok(w, "a", 0), tok(m, ":", 1), tok(n, "1", 2), tok(n, "2", 4), tok(n, "3", 6)}}, {"+/a*b", []api.Tok{tok(s, "+", 0), tok(a, "/", 1), tok(w, "a", 2), tok(s, "*", 3), tok(w, "b", 4)}}, {"F:{x+2*y}", []api.Tok{tok(v, "F", 0), tok(m, ":", 1), tok(m, "{", 2), tok(w, "x", 3), tok(s, "+", 4), tok(n, "2", 5), tok(s, "*", 6), tok(w, "y", 7), tok(m, "}", 8)}}, {"a[1]:9999999999", []api.Tok{tok(w, "a", 0), tok(m, "[", 1), tok(n, "1", 2), tok(m, "]", 3), tok(m, ":", 4), tok(n, "9999999999", 5)}}, {" F/b", []api.Tok{tok(v, "F", 1), tok(a, "/", 2), tok(w, "b", 3)}}, {"(a-b)&a", []api.Tok{tok(m, "(", 0), tok(w, "a", 1), tok(s, "-", 2), tok(w, "b", 3), tok(m, ")", 4), tok(s, "&", 5), tok(w, "a", 6)}}, {"  f`a  ", []api.Tok{tok(w, "f", 2), tok(a, "`", 3), tok(w, "a", 4)}}, {"c:2 3#!6", []api.Tok{tok(w, "c", 0), tok(m, ":", 1), tok(n, "2", 2), tok(n, "3", 4), tok(s, "#", 5), tok(s, "!", 6), tok(n, "6", 7)}},
		{"a   F  \\ _10", []api.Tok{tok(w, "a", 0), tok(v, "F", 4), tok(a, "\\", 7), tok(n, "_10", 9)}}, {"a'b.c", []api.Tok{tok(w, "a", 0), tok(a, "'", 1), tok(w, "b", 2), tok(a, ".", 3), tok(w, "c", 4)}},
	}
}

func TestRows(t *testing.T) { // P7.1: written out, kinds, texts and places
	for _, r := range rows() {
		reads(t, r.s, r.want, 0, api.OK)
	}
}

// spaced is a line of parts with as many blanks between each two, and its parts.
func spaced(blanks int, l ...api.Tok) (string, []api.Tok) {
	s, want := "", []api.Tok(nil)
	for _, p := range l {
		want = append(want, tok(p.Kind, p.Text, len(s)))
		s += p.Text + strings.Repeat(" ", blanks)
	}
	return s, want
}

func TestEachTwoParts(t *testing.T) { // P7.1: with one blank between, with more, and, where the first one doesn't go on with the other, with none
	for _, p := range alone() {
		for _, q := range alone() {
			for _, blanks := range []int{1, 2, 5} {
				if s, want := spaced(blanks, p, q); len(s) <= 256 {
					reads(t, s, want, 0, api.OK)
				}
			}
			if len(p.Text)+len(q.Text) <= 256 {
				parted(t, p.Text+q.Text)
			}
			if p.Kind >= lex.Sign || q.Kind >= lex.Sign {
				s, want := spaced(0, p, q)
				reads(t, s, want, 0, api.OK)
			}
		}
	}
}

func TestLongLines(t *testing.T) { // P7.1: 256 bytes are read, 257 are ErrBig, whatever they are
	for _, c := range []string{"+", "/", "(", "a", "A", "a1", " ", "1 ", "_1", "b+", "Fx", "1", "0", "_", "\x00", "\xff", "é", "€", ";", "\n", "1 \"", "01", "a \x80"} {
		for _, n := range []int{250, 254, 255, 256} {
			s := strings.Repeat(c, n)[:n]
			parted(t, s)
		}
		for _, n := range []int{257, 258, 300, 512, 65536 + 3, 1 << 20} {
			reads(t, strings.Repeat(c, n)[:n], nil, 0, api.ErrBig)
		}
	}
	long := "a" + strings.Repeat("b", 255)
	reads(t, long, []api.Tok{tok(lex.Word, long, 0)}, 0, api.OK)
	reads(t, long[1:], []api.Tok{tok(lex.Word, long[1:], 0)}, 0, api.OK)
	reads(t, long+"c", nil, 0, api.ErrBig)
	reads(t, strings.Repeat(" ", 255)+"7", []api.Tok{tok(lex.Num, "7", 255)}, 0, api.OK)
	reads(t, strings.Repeat(" ", 255)+"\"", nil, 255, api.ErrForm)
	reads(t, strings.Repeat(" ", 256)+"7", nil, 0, api.ErrBig)
	reads(t, "7"+strings.Repeat(" ", 256), nil, 0, api.ErrBig) // bytes are counted, not parts
	reads(t, "\""+strings.Repeat(" ", 256), nil, 0, api.ErrBig)
	reads(t, "\""+strings.Repeat(" ", 255), nil, 0, api.ErrForm)
}

func TestManyParts(t *testing.T) { // P7.1: as many as a line's bytes
	l, at, err := lex.Lex(strings.Repeat("+", 256))
	if len(l) != 256 || at != 0 || err != api.OK {
		t.Fatalf("%d parts, %d, %d", len(l), at, err)
	}
	for i, p := range l {
		if p != tok(lex.Sign, "+", i) {
			t.Errorf("part %d: %v", i, p)
		}
	}
}

func TestBytesThatBeginNoPart(t *testing.T) { // P7.1: the place of the first one, and nothing else (R1)
	for at, wants := range map[int][]string{
		0:   {"_", "__", "_ ", "_a", "_A", "_+", "_ 5", "__5", "\"", ";", "\t", "\n", "\r", "\v", "\f", "\x00", "\x7f", "\x80", "\xa0", "\xc2\xa0", "\xff", "é", "٣", "１", "ａ", "Α", "−5", "½", "×", "\" \"", "; _", "_ ;"},
		1:   {"5_", "a_", "a_b", "F_", "F_x", "+_", "a;b", "5\"", "a\t", "a\tb", " \"", " _", "1\n", "aé", "Fé", "5é", "aＡ", "5٣", "5_ \"", "1__2", "a\x00b", "+\x80+\x80"},
		2:   {"_5_", "_5__5", "a _", "a \"b\"", "a ;", "1 \xff", "ab\xff", "12\xc2\xa03", "AB\x00", "+/\"", "[]\r\n"},
		5:   {"_5+ab;", "a b  _", "1 2 3\t", "a+b+c\"", "F:{x}é"},
		8:   {"F:{x+2*y\xe9}", "        _", "a:1 2 3 _ \" ;"},
		255: {strings.Repeat("a", 255) + "_", strings.Repeat(" ", 255) + ";", strings.Repeat("1 ", 127) + "1\xff"},
	} {
		for _, s := range wants {
			reads(t, s, nil, at, api.ErrForm)
		}
	}
}

func TestFiguresThatAreNoNumber(t *testing.T) { // P7.1: where the first ones begin, with their underscore, if there is one, and nothing else (R1)
	for _, bad := range figuresThatAreNone() {
		for _, ahead := range []string{"", " ", "   ", "+", "a ", "F ", "1 ", "_5 ", "0 ", "ab+", "1 2 3#", "(", "a:", "-", nines(100)[:40] + " "} {
			for _, behind := range []string{"", " ", "+", "a", "F1", " 1", "_1", "_", ";", " 00", " _0", " \"", ")"} {
				if s := ahead + bad + behind; len(s) <= 256 {
					reads(t, s, nil, len(ahead), api.ErrForm)
				}
			}
		}
	}
}

func TestFiguresAtTheEdges(t *testing.T) { // P7.1: 100 figures are a number, 101 are none; an underscore isn't counted; a 0 stands alone
	zeros := strings.Repeat("0", 99)
	for _, s := range []string{nines(100), "_" + nines(100), "1" + zeros, "_1" + zeros, "0", "10", "_10", "_1"} {
		reads(t, s, []api.Tok{tok(lex.Num, s, 0)}, 0, api.OK)
		reads(t, "+"+s+"+", []api.Tok{tok(lex.Sign, "+", 0), tok(lex.Num, s, 1), tok(lex.Sign, "+", 1+len(s))}, 0, api.OK)
	}
	for _, s := range []string{nines(101), "_" + nines(101), "1" + zeros + "0", "_1" + zeros + "0", "_0", "00", "01", "_01", "_00", "0" + nines(100)} {
		reads(t, s, nil, 0, api.ErrForm)
		reads(t, "+"+s+"+", nil, 1, api.ErrForm)
	}
	reads(t, nines(100)+" "+nines(100), []api.Tok{tok(lex.Num, nines(100), 0), tok(lex.Num, nines(100), 101)}, 0, api.OK)
	reads(t, nines(100)+"_"+nines(100), []api.Tok{tok(lex.Num, nines(100), 0), tok(lex.Num, "_"+nines(100), 100)}, 0, api.OK)
	reads(t, nines(100)+"_"+nines(101), nil, 100, api.ErrForm)
}

func TestFirstOfTwoErrors(t *testing.T) { // P7.1: the one that comes first in the line, of whichever kind it is
	for _, c := range []struct {
		s  string
		at int
	}{
		{"01 \"", 0}, {"01\"", 0}, {"\" 01", 0}, {"\"01", 0}, {"a 01 ; 02", 2}, {"a ; 01", 2}, {"_0_", 0}, {"__0", 0}, {"_ 00", 0}, {"1 00 _", 2}, {"1 _ 00", 2}, {"1 2 _0 \xff", 4}, {"1 2\xff_0", 3},
		{"a01 01", 4}, {"F00 \"00", 4}, {"a_b 01", 1}, {"a b_01 ;", 3}, {nines(101) + "\"", 0}, {"\"" + nines(101), 0}, {"01 02 03", 0}, {"1 02 03", 2}, {"; \"", 0}, {"x; \"", 1},
	} {
		reads(t, c.s, nil, c.at, api.ErrForm)
	}
}

func TestAnyLine(t *testing.T) { // P7.1, P1, R5: of any parts and bytes
	r := random(1)
	ends := map[api.Errno]int{}
	for range 20000 {
		s := r.line()
		parted(t, s)
		_, _, err := lex.Lex(s)
		ends[err]++
	}
	if ends[api.OK] < 1000 || ends[api.ErrForm] < 1000 || ends[api.ErrBig] < 1000 {
		t.Errorf("too few lines of a kind: %v", ends)
	}
	for range 5000 {
		b := make([]byte, r.below(12))
		for i := range b {
			b[i] = byte(r.below(256))
		}
		parted(t, string(b))
	}
}

func TestPartsAreTheLine(t *testing.T) { // P7.1: each stands at its place, and between them there are blanks alone
	r := random(3)
	for range 3000 {
		s := r.sound(func() int { return 1 + r.below(3) })
		l, _, err := lex.Lex(s)
		if err != api.OK {
			t.Fatalf("Lex(%q): %d", s, err)
		}
		end := 0
		for _, p := range l {
			if p.At < end || strings.Trim(s[end:p.At], " ") != "" || !strings.HasPrefix(s[p.At:], p.Text) || p.Text == "" {
				t.Fatalf("Lex(%q): the part %v", s, p)
			}
			end = p.At + len(p.Text)
		}
		if strings.Trim(s[end:], " ") != "" {
			t.Errorf("Lex(%q): nothing is told of its end", s)
		}
	}
}

func TestNumber(t *testing.T) { // P7.2
	for s, want := range map[string]string{"0": "0", "5": "5", "_5": "-5", "10": "10", "_10": "-10", nines(100): nines(100), "_" + nines(100): "-" + nines(100)} {
		if got, ok := lex.Number(s); got != want || !ok {
			t.Errorf("Number(%q): %q, %v", s, got, ok)
		}
	}
	for _, n := range numbers() {
		if got, ok := lex.Number(strings.Replace(n, "-", "_", 1)); got != n || !ok {
			t.Errorf("of %q: %q, %v", n, got, ok)
		}
	}
}

// noNum are texts of no Num, and of no number either.
func noNum() []string {
	l := append(figuresThatAreNone(), words()...)
	return append(append(l, verbs()...),
		"", "_", "__", "-", "--", "_-", "-_", "__5", "--5", "_-5", "-_5", "5_", "5-", "5_5", "5-5", "-0", "-00", "-01", "-"+nines(101), "+5", "+", " ", " 5", "5 ", " 5 ", "_ 5", "- 5", "1 2", "_1 _2", "\t5", "5\n", "5\x00", "\x005", "5a", "a5", "_a", "1e5", "1.0", "0x1", "1_000", "/", ":", "1/", "1:", "\x80", "5\xff", "٣", "１", "−5", "_é", nines(300), "_"+nines(300), nines(1<<20), strings.Repeat("_", 101), strings.Repeat("_", 300))
}

func TestNumberOfOthers(t *testing.T) { // P7.2, R1: also with a hyphen in place of the underscore
	l := noNum()
	for _, n := range numbers() {
		if strings.HasPrefix(n, "-") {
			l = append(l, n)
		}
	}
	for _, s := range l {
		if got, ok := lex.Number(s); got != "" || ok {
			t.Errorf("Number(%.120q): %.120q, %v", s, got, ok)
		}
	}
}

func TestLiteral(t *testing.T) { // P7.2
	for n, want := range map[string]string{"0": "0", "5": "5", "-5": "_5", "10": "10", "-10": "_10", nines(100): nines(100), "-" + nines(100): "_" + nines(100)} {
		if got, ok := lex.Literal(n); got != want || !ok {
			t.Errorf("Literal(%q): %q, %v", n, got, ok)
		}
	}
	for _, n := range numbers() {
		if got, ok := lex.Literal(n); got != strings.Replace(n, "-", "_", 1) || !ok {
			t.Errorf("Literal(%q): %q, %v", n, got, ok)
		}
	}
}

func TestLiteralOfOthers(t *testing.T) { // P7.2, R1: also with an underscore in place of the hyphen
	l := noNum()
	for _, s := range literals() {
		if strings.HasPrefix(s, "_") {
			l = append(l, s)
		}
	}
	for _, n := range l {
		if got, ok := lex.Literal(n); got != "" || ok {
			t.Errorf("Literal(%.120q): %.120q, %v", n, got, ok)
		}
	}
}

func TestNumberAndLiteralOfShortTexts(t *testing.T) { // P7.2: all of up to four of some bytes, and each byte ahead, behind and alone
	texts := []string{""}
	for i := 0; i < len(texts); i++ {
		if len(texts[i]) < 4 {
			for _, c := range []string{"_", "-", "0", "1", "9", "a", " "} {
				texts = append(texts, texts[i]+c)
			}
		}
	}
	for b := range 256 {
		c := single(b)
		texts = append(texts, c, c+"1", "1"+c, c+"0", "_"+c, "-"+c, "1"+c+"1", "_1"+c, "-1"+c)
	}
	for _, s := range texts {
		got, ok := lex.Number(s)
		if number.MatchString(s) != ok || ok && got != strings.Replace(s, "_", "-", 1) || !ok && got != "" {
			t.Errorf("Number(%q): %q, %v", s, got, ok)
		}
		got, ok = lex.Literal(s)
		if num.May(s) != ok || ok && got != strings.Replace(s, "-", "_", 1) || !ok && got != "" {
			t.Errorf("Literal(%q): %q, %v", s, got, ok)
		}
	}
}

func TestNumberIsANumsText(t *testing.T) { // P7.1, P7.2: just what Lex tells as one Num
	for _, s := range append(append(append(literals(), noNum()...), numbers()...), figuresThatAreNone()...) {
		l, _, err := lex.Lex(s)
		isNum := err == api.OK && len(l) == 1 && l[0] == tok(lex.Num, s, 0)
		n, ok := lex.Number(s)
		if ok != isNum || ok != num.May(n) {
			t.Errorf("%.120q: Lex tells %v, Number %q, %v", s, l, n, ok)
		}
	}
}

func TestNumbersThereAndBack(t *testing.T) { // P7.3
	for _, n := range numbers() {
		s, ok := lex.Literal(n)
		back, okBack := lex.Number(s)
		if !ok || !okBack || back != n {
			t.Errorf("%q is %q, and %q", n, s, back)
		}
	}
	for _, s := range literals() {
		n, ok := lex.Number(s)
		back, okBack := lex.Literal(n)
		if !ok || !okBack || back != s {
			t.Errorf("%q is %q, and %q", s, n, back)
		}
	}
	r := random(7)
	for range 5000 {
		n := num.Of(int64(r.below(1<<30))<<33 - 1<<62>>r.below(60) + int64(r.below(1<<20)))
		s, _ := lex.Literal(n)
		if back, ok := lex.Number(s); back != n || !ok {
			t.Errorf("%q is %q, and %q", n, s, back)
		}
	}
}

func TestJoin(t *testing.T) { // P7.2
	for _, c := range []struct {
		texts []string
		want  string
	}{
		{nil, ""}, {[]string{}, ""}, {[]string{""}, ""}, {[]string{"a"}, "a"}, {[]string{" "}, " "}, {[]string{"a", "b"}, "a b"}, {[]string{"_5", "+", "ab"}, "_5 + ab"}, {[]string{"1", "2", "3"}, "1 2 3"},
		{[]string{"", ""}, " "}, {[]string{"", "", ""}, "  "}, {[]string{"a", "", "b"}, "a  b"}, {[]string{"", "a"}, " a"}, {[]string{"a", ""}, "a "}, {[]string{" a ", " b "}, " a   b "}, {[]string{"a b", "c"}, "a b c"}, {[]string{"01", "\xff", "é\n", "\x00"}, "01 \xff é\n \x00"}, {[]string{"no part;", "\""}, "no part; \""},
		{[]string{nines(300), nines(300)}, nines(300) + " " + nines(300)}, // no limit is on it
		{slices.Repeat([]string{"+"}, 5000), strings.Repeat("+ ", 4999) + "+"},
	} {
		for kind := range 9 {
			var l []api.Tok
			for i, s := range c.texts {
				l = append(l, tok(kind*i-3, s, 1000-kind-i)) // Text alone is asked for
			}
			if got := lex.Join(l); got != c.want {
				t.Errorf("Join(%.200v): %.200q", l, got)
			}
		}
	}
	if got := lex.Join([]api.Tok{}); got != "" { // R2
		t.Errorf("of none: %q", got)
	}
}

// unplaced are parts, without where they stand.
func unplaced(l []api.Tok) []api.Tok {
	l = slices.Clone(l)
	for i := range l {
		l[i].At = 0
	}
	return l
}

// again holds a line's parts against those that they have, joined, if that is no longer than a line may be.
func again(t *testing.T, s string) (read bool) {
	t.Helper()
	l, _, err := lex.Lex(s)
	joined := lex.Join(l)
	if err != api.OK || len(joined) > 256 {
		return false
	}
	back, at, err := lex.Lex(joined)
	if !slices.Equal(unplaced(back), unplaced(l)) || at != 0 || err != api.OK || lex.Join(back) != joined {
		t.Errorf("%q: %v; joined %q: %v, %d, %d", s, l, joined, back, at, err)
	}
	return true
}

func TestJoinedAgain(t *testing.T) { // P7.3
	for _, r := range rows() {
		if !again(t, r.s) {
			t.Errorf("%q has no parts", r.s)
		}
	}
	for _, p := range alone() {
		for _, q := range alone() {
			again(t, p.Text+q.Text)
			again(t, p.Text+q.Text+p.Text)
		}
	}
	r, read := random(11), 0
	for range 20000 {
		if again(t, r.line()) {
			read++
		}
		if again(t, r.sound(func() int { return r.below(3) })) {
			read++
		}
	}
	if read < 10000 {
		t.Errorf("%d lines are read again", read)
	}
}

func TestJoinedWithOneBlankStays(t *testing.T) { // P7.3: such a line is what its parts are, joined
	r := random(13)
	for range 3000 {
		s := strings.TrimSuffix(r.sound(func() int { return 1 }), " ")
		l, _, err := lex.Lex(s)
		if err != api.OK || lex.Join(l) != s {
			t.Errorf("%q: %v, %d", s, l, err)
		}
	}
}

func TestWhatIsHandedInStays(t *testing.T) { // R3: Join turns no part, also behind the list's end
	room := []api.Tok{tok(lex.Num, "_5", 0), tok(lex.Sign, "+", 2), tok(lex.Word, "ab", 3), tok(9, " x", -4)}
	kept := slices.Clone(room)
	if got := lex.Join(room[:2]); got != "_5 +" || !slices.Equal(room, kept) {
		t.Errorf("%v: %q, and %v then", kept, got, room)
	}
	joined := lex.Join(room)
	room[0] = tok(lex.Word, "other", 7)
	if joined != "_5 + ab  x" {
		t.Errorf("there is %q then", joined)
	}
}

func TestPartsShareNothing(t *testing.T) { // R3, R4
	const s = "_5+ab 7"
	first, _, _ := lex.Lex(s)
	second, _, _ := lex.Lex(s)
	want := slices.Clone(second)
	for i := range first {
		first[i] = tok(0, "", -1)
	}
	first = append(first, tok(1, "1", 1))
	third, _, _ := lex.Lex(s)
	if !slices.Equal(second, want) || !slices.Equal(third, want) || len(first) != 5 {
		t.Errorf("%v and %v; not %v", second, third, want)
	}
}

// answer is what all calls tell of a text.
type answer struct {
	parts, number, literal string
	at                     int
	err                    api.Errno
	isNumber, isLiteral    bool
}

func asked(s string) answer {
	var a answer
	l, at, err := lex.Lex(s)
	a.parts, a.at, a.err = lex.Join(l), at, err
	a.number, a.isNumber = lex.Number(s)
	a.literal, a.isLiteral = lex.Literal(s)
	return a
}

func TestAnswersHangOnNothingElse(t *testing.T) { // R4, P1: asked again, the other way round, and side by side, of any texts
	r := random(17)
	l := append(append(noNum(), numbers()...), literals()...)
	for range 2000 {
		l = append(l, r.line())
	}
	var got []answer
	for _, s := range l {
		got = append(got, asked(s))
	}
	var group sync.WaitGroup
	for range 4 {
		group.Go(func() {
			for i := len(l) - 1; i >= 0; i-- {
				if a := asked(l[i]); a != got[i] {
					t.Errorf("%q: %v, and then %v", l[i], got[i], a)
				}
			}
		})
	}
	group.Wait()
}
