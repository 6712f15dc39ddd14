package text_test

import (
	"slices"
	"strconv"
	"strings"
	"sync"
	"testing"

	"reredos/api"
	"reredos/text"
	"reredos/val"
)

// The calls, with the exact signatures that the chapter lists.
var (
	_ func(v api.Val) (string, api.Errno) = text.Text
	_ func(s string) (api.Val, api.Errno) = text.Read
)

// tells holds an array against its text, there and back.
func tells(t *testing.T, v api.Val, want string) {
	t.Helper()
	if s, err := text.Text(v); s != want || err != api.OK {
		t.Errorf("Text of %s: %s, %d, not %s", short(v), long(s), err, long(want))
	}
	reads(t, want, v)
	if s := said(v); s != want {
		t.Errorf("the words say %s of %s, not %s", long(s), short(v), long(want))
	}
	if w, ok := meant(want); !like(w, v) || !ok {
		t.Errorf("the patterns tell %s of %s, not %s", short(w), long(want), short(v))
	}
}

// reads holds a text against the array of which it is, and that may be.
func reads(t *testing.T, s string, want api.Val) {
	t.Helper()
	if v, err := text.Read(s); !like(v, want) || err != api.OK || !val.May(v) || !val.Same(v, want) {
		t.Errorf("Read(%s): %s, %d, not %s", long(s), short(v), err, short(want))
	}
}

// none asks for the array of a text that is none's.
func none(t *testing.T, s string) {
	t.Helper()
	if v, err := text.Read(s); !like(v, zero) || err != api.ErrForm {
		t.Errorf("Read(%s): %s, %d", long(s), short(v), err)
	}
}

// noneEach asks so for each of some, and holds the patterns against them.
func noneEach(t *testing.T, l ...string) {
	t.Helper()
	for _, s := range l {
		none(t, s)
		if v, ok := meant(s); ok {
			t.Errorf("the patterns tell %s of %s", short(v), long(s))
		}
	}
}

// either holds any text against what the patterns tell of it, and, if it is an array's, against Text.
func either(t *testing.T, s string) bool {
	t.Helper()
	want, ok := meant(s)
	if !ok {
		none(t, s)
		return false
	}
	reads(t, s, want)
	if again, err := text.Text(want); again != s || err != api.OK {
		t.Errorf("Text of %s: %s, %d", long(s), long(again), err)
	}
	return true
}

func TestExample(t *testing.T) { // the chapter's
	v := of(ints(2, 3), "1", "2", "3", "4", "5", "6")
	tells(t, v, "2 3#1 2 3 4 5 6")
	if got, err := text.Read("2 3#1 2 3 4 5 6"); err != api.OK || val.Many(got) != 2 {
		t.Errorf("it has %d items, %d", val.Many(got), err)
	}
}

func TestWritten(t *testing.T) { // P11.1, P11.2: byte by byte
	for _, c := range []struct {
		v    api.Val
		want string
	}{
		{of(nil, "0"), "0"}, {of(nil, "5"), "5"}, {of(nil, "-5"), "_5"}, {of(nil, "10"), "10"}, {of(nil, "-120"), "_120"}, {of(nil, nines(100)), nines(100)}, {of(nil, "-"+power(99)), "_" + power(99)},
		{of(ints(0)), "!0"}, {of(ints(1), "0"), ",0"}, {of(ints(1), "7"), ",7"}, {of(ints(1), "-7"), ",_7"}, {of(ints(1), nines(100)), "," + nines(100)}, {of(ints(1), "-"+nines(100)), ",_" + nines(100)},
		{of(ints(2), "1", "2"), "1 2"}, {of(ints(2), "0", "0"), "0 0"}, {of(ints(2), "-1", "-2"), "_1 _2"}, {of(ints(2), nines(100), "-"+nines(100)), nines(100) + " _" + nines(100)}, {of(ints(3), "10", "-1", "0"), "10 _1 0"}, {of(ints(5), "1", "2", "3", "4", "5"), "1 2 3 4 5"},
		{of(ints(1, 1), "5"), "1 1#,5"}, {of(ints(1, 1), "-5"), "1 1#,_5"}, {of(ints(1, 2), "1", "2"), "1 2#1 2"}, {of(ints(2, 1), "1", "2"), "2 1#1 2"}, {of(ints(2, 2), "1", "-2", "0", "4"), "2 2#1 _2 0 4"}, {of(ints(1, 11), "0", "1", "2", "3", "4", "5", "6", "7", "8", "9", "10"), "1 11#0 1 2 3 4 5 6 7 8 9 10"}, {of(ints(3, 2), "6", "5", "4", "3", "2", "1"), "3 2#6 5 4 3 2 1"},
		{of(ints(0, 0)), "0 0#!0"}, {of(ints(0, 3)), "0 3#!0"}, {of(ints(3, 0)), "3 0#!0"}, {of(ints(0, 1)), "0 1#!0"}, {of(ints(1, 0)), "1 0#!0"}, {of(ints(0, 4097)), "0 4097#!0"}, {of(ints(1<<40, 0)), "1099511627776 0#!0"},
		{of(ints(1, 1, 1), "-9"), "1 1 1#,_9"}, {of(ints(1, 2, 1), "3", "4"), "1 2 1#3 4"}, {of(ints(2, 1, 3), "1", "2", "3", "4", "5", "6"), "2 1 3#1 2 3 4 5 6"}, {of(ints(2, 2, 2), "1", "2", "3", "4", "5", "6", "7", "-8"), "2 2 2#1 2 3 4 5 6 7 _8"},
		{of(ints(0, 2, 3)), "0 2 3#!0"}, {of(ints(2, 0, 3)), "2 0 3#!0"}, {of(ints(2, 3, 0)), "2 3 0#!0"}, {of(ints(0, 0, 0)), "0 0 0#!0"}, {of(ints(0, 1<<40, 1<<40)), "0 1099511627776 1099511627776#!0"},
	} {
		tells(t, c.v, c.want)
	}
}

func TestMaxCells(t *testing.T) { // P11.1, P11.2: as many elements as there may be, and one more
	l := slices.Repeat(texts("7"), 4096)
	sevens := strings.Repeat("7 ", 4095) + "7"
	for axes, s := range map[string][]int{"": ints(4096), "64 64#": ints(64, 64), "1 4096#": ints(1, 4096), "4096 1#": ints(4096, 1), "16 16 16#": ints(16, 16, 16), "1 1 4096#": ints(1, 1, 4096), "2 4 512#": ints(2, 4, 512)} {
		tells(t, of(s, l...), axes+sevens)
		noneEach(t, axes+sevens+" 7", axes+sevens[2:]+" ", axes+" "+sevens[2:], axes+","+sevens, axes+sevens+",")
	}
	for _, axes := range texts("", "1 4096#", "4097 1#", "1 4097#", "64 65#", "17 241#", "1 1 4097#", "241 1 17#", "4097#") {
		noneEach(t, axes+sevens+" 7")
	}
	noneEach(t, "64 65#"+strings.Repeat("7 ", 64*65-1)+"7", "4097 0#7", "16 16 17#"+strings.Repeat("7 ", 16*16*17-1)+"7", "64 64#"+sevens[2:], "4096#"+sevens)
	most := "_" + nines(100)
	tells(t, of(ints(4096), slices.Repeat(texts("-"+nines(100)), 4096)...), strings.Repeat(most+" ", 4095)+most)
}

func TestThereAndBack(t *testing.T) { // P11.1, P11.3: whole arrays, as the words say once more, and read as they were
	for _, v := range good() {
		tells(t, v, said(v))
	}
}

func TestTextOfWhatMayNotBe(t *testing.T) { // P11.1, R1, R5
	for _, v := range bad() {
		if s, err := text.Text(v); s != "" || err != api.ErrArg {
			t.Errorf("Text of %s: %s, %d", short(v), long(s), err)
		}
	}
}

func TestReadOfWhatIsNone(t *testing.T) { // P11.2, R1
	noneEach(t, "", " ", "  ", ",", "!", "#", "_", "-", "\n", "\x00", "\xff", "a", "F", "()", "0x", "null")
	noneEach(t, " 5", "5 ", " 1 2", "1 2 ", "1  2", "1 2  3", "1\t2", "1\n2", "1 2\n", " !0", "!0 ", "! 0", " ,5", ", 5", ",5 ")          // blanks
	noneEach(t, ",", ",,5", ",5,", ",1 2", ",1 2 3", ",!0", "!0,", "1,2", "1 ,2", "1, 2", "5,", ",5 6", ",_", ",#5", "!,0")               // commas
	noneEach(t, "!", "!1", "!00", "!_0", "!0 1", "!0 !0", "!0!0", "0!", "0!0", "!!0", "!2", "!-0", "! 0", "5 !0", "!0 5", "!10", "!0#!0") // of no element
	noneEach(t, "#", "##", "#5", "#!0", "#,5", "#1 2", "5#", "2 3#", "1 1#", "0 0#", "1 1 1#", "1 2#1 2#", "1 2##1 2", "#1 2#1 2", "1 2#1 2#1 2", "1#2#1 2", "1 2#1#2", "1 2 #1 2", "1 2# 1 2", " 1 2#1 2", "1 2#1 2 ", "1  2#1 2", ",1 2#1 2", "1 ,2#1 2", "!0#5", ",0#!0", "!0 1#5")
	noneEach(t, "0#!0", "1#,5", "1#5", "2#1 2", "3#1 2 3", "_1#5", "4097#5", "1 1 1 1#,5", "1 1 1 1#5", "1 1 2 1#1 2", "0 0 0 0#!0", "1 1 1 1 1#,5", strings.Repeat("1 ", 5000)+"1#,5")                                 // as many axes as aren't told
	noneEach(t, "1 1#5", "1 1 1#5", "1 1#_5", "1 2#,1 2", "2 1#,1 2", "2 2#,1 2 3 4", "1 2#,1", "1 1#,1 2", "0 1#,", "0 1#", "0 1#0", "0 1#,0", "0 0#,!0", "1 1#!0", "1 0#!1", "1 0#!00", "1 0#!0 1", "1 0#!", "1 0#0") // of one element, and of none
	noneEach(t, "1 2#1", "1 2#,1", "1 2#1 2 3", "2 2#1 2 3", "2 2#1 2 3 4 5", "2 3#1 2 3 4 5", "2 3#1 2 3 4 5 6 7", "2 3#!0", "2 3#,1", "1 1 2#1", "2 1 2#1 2 3", "2 0#1 2", "0 2#1 2", "1 1#1 2", "0 0#1 2")           // too few, and too many
}

func TestReadOfAxesThatMayNotBe(t *testing.T) { // P11.2, R1: below 0, too great, of many figures; multiplied, or round in 64 bits, to as many as there are
	noneEach(t, "_1 _1#,5", "_1 _2#1 2", "_1 1#,5", "1 _1#,5", "_1 0#!0", "0 _1#!0", "_1 _1 1#,5", "_2 1 _1#1 2", "0 _5 2#!0", "_1 _1 _1#,5", "_0 5#!0", "0 _0#!0", "00 1#!0", "01 1#,5", "1 01#,5", "1 1 01#,5", "+1 1#,5", "-1 -1#,5", "1.0 1#,5", "a 1#,5", "1 b#,5")
	for _, s := range texts("1099511627777", "2199023255552", "4294967296000", "9223372036854775807", "9223372036854775808", "9223372036854775809", "18446744073709551616", "18446744073709551617", "18446744073709551618", power(30), power(99), nines(100), power(100), nines(101), nines(1000)) {
		noneEach(t, s+" 0#!0", "0 "+s+"#!0", "0 0 "+s+"#!0", "0 "+s+" 0#!0", s+" 1#,5", "1 "+s+"#,5", s+" 1#1 2", s+" "+s+"#!0", "_"+s+" 0#!0", "_"+s+" 1#,5", s+" 2#5 6")
	}
	noneEach(t, "1099511627776 1#!0", "1 1099511627776#,5", "4294967296 4294967296#!0", "1099511627776 16777216#!0", "8589934592 2147483648 1#!0", "1 1099511627776 16777216#!0", "1048576 1048576 16777216#!0", "11806113 409891 7623851#,5", "7623851 11806113 409891#5", "3 6148914691236517206#1 2", "4097 1#,5", "1 1 4097#5", "64 65#!0", "2048 2049 1#,5")
	for _, s := range texts("1", "4096", "4097", "1099511627775", "1099511627776") {
		x, _ := strconv.Atoi(s)
		tells(t, of(ints(x, 0)), s+" 0#!0")
		tells(t, of(ints(0, x)), "0 "+s+"#!0")
		tells(t, of(ints(x, x, 0)), s+" "+s+" 0#!0")
		tells(t, of(ints(x, 0, x)), s+" 0 "+s+"#!0")
	}
}

func TestReadOfAxesAndElements(t *testing.T) { // P11.2: all small axes, and each number of elements
	ends := texts("!0")
	for n := 1; n <= 9; n++ {
		ends = append(ends, row(counted(ints(n)).Elems), ","+row(counted(ints(n)).Elems))
	}
	var axes []string
	for a := range 5 {
		axes = append(axes, part(strconv.Itoa(a-1)))
	}
	told := 0
	ask := func(s string) {
		for _, end := range ends {
			if either(t, s+"#"+end) {
				told++
			}
		}
	}
	for _, a := range axes {
		ask(a)
		for _, b := range axes {
			ask(a + " " + b)
			for _, c := range axes {
				ask(a + " " + b + " " + c)
				ask(a + " " + b + " " + c + " 1")
			}
		}
	}
	if told != 16+57 { // of two axes all 4*4 shapes have 9 elements at most; of three all 4*4*4 but 2 2 3, 2 3 3, and these turned, and 3 3 3
		t.Errorf("%d of them are told", told)
	}
}

func TestReadOfNumbers(t *testing.T) { // P11.2: each number, and what is none, in each place
	for _, n := range numbers() {
		p := part(n)
		for _, s := range texts(p, ","+p, p+" 5", "5 "+p, "5 "+p+" 6", "1 1#,"+p, "1 2#"+p+" 5", "2 1 1#5 "+p) {
			if !either(t, s) {
				t.Errorf("the patterns don't tell %s", long(s))
			}
		}
	}
	for _, p := range noParts() {
		for _, s := range texts(p, ","+p, p+" 5", "5 "+p, "5 "+p+" 6", "1 1#,"+p, "1 2#"+p+" 5", "2 1 1#5 "+p, p+" 1#,5", "1 "+p+"#,5", p+" 0#!0", "0 "+p+"#!0", "0 "+p+" 1#!0") {
			noneEach(t, s)
		}
	}
}

func TestReadOfAllShortTexts(t *testing.T) { // P11.2: all of up to six bytes that may stand in a text, a hyphen and a zero among them
	const bytes = "012_- ,!#"
	told := 0
	var ask func(s string)
	ask = func(s string) {
		if either(t, s) {
			told++
		}
		for i := 0; i < len(bytes) && len(s) < 6; i++ {
			ask(s + bytes[i:i+1])
		}
	}
	ask("")
	if told < 1000 {
		t.Errorf("only %d of them are told", told)
	}
}

func TestReadOfEachByte(t *testing.T) { // P11.2: each byte ahead of, behind, and in place of each
	for _, s := range some() {
		for at := range len(s) + 1 {
			for c := range 256 {
				one := string([]byte{byte(c)})
				either(t, s[:at]+one+s[at:])
				if at < len(s) {
					either(t, s[:at]+one+s[at+1:])
				}
			}
		}
	}
}

func TestReadOfSpoilt(t *testing.T) { // P11.2: cut off behind each byte, ahead of each, one away, two changed for one another, a piece twice, and another text behind
	for _, s := range some() {
		for at := range s {
			either(t, s[:at])
			either(t, s[at:])
			either(t, s[:at]+s[at+1:])
			either(t, s[:at+1]+s[at:])
			for to := at + 1; to <= len(s); to++ {
				either(t, s[:to]+s[at:])
				either(t, s[:at]+s[to:])
			}
			if at > 0 {
				either(t, s[:at-1]+s[at:at+1]+s[at-1:at]+s[at+1:])
			}
		}
		for _, other := range some() {
			for _, between := range texts("", " ", ",", "#", "!", "!0", "_", "\n") {
				either(t, s+between+other)
			}
		}
	}
}

func TestReadOfAnyPieces(t *testing.T) { // P11.2, R5
	r := random(7)
	pieces := texts("0", "1", "2", "3", "6", "10", "_1", "_5", "1 2", "1 1", "2 3", "1 2 3 4 5 6", " ", " ", " ", ",", "!0", "!", "#", "#", "_", "-", "00", "x", nines(100))
	told := 0
	for range 200000 {
		s := ""
		for range r.below(9) {
			s += pieces[r.below(len(pieces))]
		}
		if either(t, s) {
			told++
		}
	}
	if told < 5000 {
		t.Errorf("only %d of them are told", told)
	}
}

func TestReadOfManyBytes(t *testing.T) { // P1, P11.2: long texts that are none
	const many = 1 << 20
	for _, s := range texts(" ", "0", "1", "9", "_", "-", ",", "!", "!0", "#", "1 ", " 1", "1  ", "_1 ", "1,", ",1", "1#", "1 1#", "#1", "0 ", "\x00", "\xff", nines(100)+" ") {
		whole := strings.Repeat(s, many/len(s))
		for _, ahead := range texts("", ",", "!0", "5 ", "1 2#", "1 1 1#", "_") {
			none(t, ahead+whole)
			none(t, ahead+whole+"1")
			none(t, ahead+whole+"#1")
			none(t, ahead+whole+"#,5")
		}
	}
}

func TestNoTwoAlike(t *testing.T) { // P11.3
	arrays := map[string]api.Val{}
	for _, v := range good() {
		s, err := text.Text(v)
		if other, ok := arrays[s]; err != api.OK || ok && !like(other, v) {
			t.Errorf("Text of %s: %s, %d, as of %s", short(v), long(s), err, short(other))
		}
		arrays[s] = v
	}
	elems := texts("0", "1", "-1", "2", "10", "11", "-11", "12", "110")
	shapes := [][]int{nil, ints(1), ints(1, 1), ints(1, 1, 1), ints(2), ints(1, 2), ints(2, 1), ints(2, 1, 1), ints(1, 2, 1), ints(1, 1, 2), ints(3), ints(1, 3), ints(3, 1), ints(3, 1, 1), ints(1, 3, 1), ints(1, 1, 3)}
	told := map[string]int{}
	each := 0
	for _, s := range shapes {
		for i := range 9 * 9 * 9 {
			if l := texts(elems[i%9], elems[i/9%9], elems[i/81]); product(s) == 3 || i < 9 || product(s) == 2 && i < 81 {
				line, _ := text.Text(of(s, l[:product(s)]...))
				told[line]++
				each++
			}
		}
	}
	if each != 4*9+6*81+6*729 || len(told) != each {
		t.Errorf("%d arrays have %d texts", each, len(told))
	}
}

func TestNilAndEmpty(t *testing.T) { // R2: of shapes, elements, and texts
	for _, s := range [][]int{nil, {}, make([]int, 0, 5)} {
		tells(t, of(s, "5"), "5")
		for _, elems := range [][]string{nil, {}, make([]string, 0, 5)} {
			if line, err := text.Text(of(s, elems...)); line != "" || err != api.ErrArg {
				t.Errorf("Text of no axis and no element: %q, %d", line, err)
			}
			tells(t, of(ints(0), elems...), "!0")
			tells(t, of(ints(3, 0), elems...), "3 0#!0")
			tells(t, of(ints(0, 1, 2), elems...), "0 1 2#!0")
		}
	}
	none(t, string([]byte{}))
}

// spoil writes all over an array, also behind its lists' ends.
func spoil(v api.Val) {
	for i := range v.Shape[:cap(v.Shape)] {
		v.Shape[:cap(v.Shape)][i] = -77
	}
	for i := range v.Elems[:cap(v.Elems)] {
		v.Elems[:cap(v.Elems)][i] = "spoilt"
	}
}

// copied is an array of its own, with room behind its lists.
func copied(v api.Val) api.Val {
	return of(append(make([]int, 0, len(v.Shape)+4), v.Shape...), append(make([]string, 0, len(v.Elems)+4), v.Elems...)...)
}

func TestWhatIsHandedInStays(t *testing.T) { // R3
	for _, v := range append(good(), bad()...) {
		mine := copied(v)
		room := of(mine.Shape[:cap(mine.Shape)], mine.Elems[:cap(mine.Elems)]...)
		kept := copied(room)
		s, err := text.Text(mine)
		if !like(mine, v) || !like(room, kept) {
			t.Errorf("%s is %s then", short(v), short(mine))
		}
		spoil(mine)
		if again, e := text.Text(v); again != s || e != err {
			t.Errorf("Text of %s: %s, and then %s", short(v), long(s), long(again))
		}
	}
}

func TestAnswersShareNothing(t *testing.T) { // R3: no two of them share any
	for _, s := range append(some(), strings.Repeat("5 ", 4095)+"5", "1 +", "", "1 1#5", "_1 _1#,5") {
		first, err := text.Read(s)
		second, _ := text.Read(s)
		kept := copied(second)
		spoil(first)
		third, again := text.Read(s)
		if !like(second, kept) || !like(third, kept) || again != err {
			t.Errorf("Read(%s): %s, and then %s", long(s), short(kept), short(third))
		}
	}
}

func TestAnswersHangOnNothingElse(t *testing.T) { // R4: asked again, the other way round, and side by side
	arrays := append(good()[:300], bad()...)
	lines := append(some(), "", "1 +", "1 1#5", "2 2#1 2 3")
	type answer struct {
		text, again string
		err, errors api.Errno
	}
	ask := func(i int) answer {
		var a answer
		a.text, a.err = text.Text(arrays[i])
		v, err := text.Read(lines[i%len(lines)])
		a.again, a.errors = strconv.Itoa(len(v.Shape))+" "+row(v.Elems), err
		return a
	}
	var got []answer
	for i := range arrays {
		got = append(got, ask(i))
	}
	var group sync.WaitGroup
	for range 4 {
		group.Go(func() {
			for i := len(arrays) - 1; i >= 0; i-- {
				if ask(i) != got[i] {
					t.Errorf("of %s, and of %s, there is something else then", short(arrays[i]), long(lines[i%len(lines)]))
				}
			}
		})
	}
	group.Wait()
}
