package adverb_test

import (
	"slices"
	"strings"
	"sync"
	"testing"

	"reredos/adverb"
	"reredos/api"
	"reredos/prim"
	"reredos/val"
)

func TestOfOneAgainstTheWords(t *testing.T) { // P17.1: each sign and each spy, of each shape
	for _, v := range good() {
		for _, c := range ofOne() {
			for _, op := range append(signs(ones), "%", "^", "") {
				hold(t, c, op, v, zero)
			}
			for _, op := range signs(twos) {
				if c.name != "Each" {
					hold(t, c, op, v, zero)
				}
			}
			for _, make := range spies() {
				holdSpy(t, c, make, v, zero)
			}
		}
	}
}

func TestOfTwoAgainstTheWords(t *testing.T) { // P17.2: each two shapes, with any of the signs and of the spies
	r := random(1)
	all, ops := spies(), append(signs(twos), "", "F")
	for _, a := range slices.Concat(small(), hollow()) {
		for _, b := range slices.Concat(small(), hollow()) {
			v, w := r.array(a), r.array(b)
			if r.below(2) == 0 {
				v, w = r.upTo(a, 4), r.upTo(b, 4)
			}
			for _, c := range ofTwo() {
				for range 3 {
					hold(t, c, ops[r.below(len(ops))], v, w)
					holdSpy(t, c, all[r.below(len(all))], v, w)
				}
			}
		}
	}
}

func TestEachSignOfTwo(t *testing.T) { // P17.2: of a few shapes all signs, both ways round
	r := random(2)
	few := [][]int{nil, ints(0), ints(1), ints(2), ints(3), ints(2, 2), ints(3, 2), ints(2, 0), ints(2, 1, 2), ints(0, 2)}
	for _, a := range few {
		for _, b := range few {
			for _, op := range append(signs(twos), "", "F", "++") {
				for _, c := range ofTwo() {
					hold(t, c, op, r.upTo(a, 4), r.upTo(b, 4))
					hold(t, c, op, r.array(a), r.upTo(b, 3))
				}
			}
		}
	}
}

func TestMaxCells(t *testing.T) { // as many elements as there may be
	r := random(3)
	for _, s := range full() {
		v, w := r.upTo(s, 1000), r.upTo(s, 1000)
		hold(t, named("Each"), "-", v, zero)
		hold(t, named("Each"), "#", v, zero)
		hold(t, named("Reduce"), "+", v, zero)
		hold(t, named("Scan"), "-", v, zero)
		hold(t, named("Prior"), "-", v, zero)
		hold(t, named("Both"), "-", v, w)
		hold(t, named("Both"), "-", v, only("7"))
		hold(t, named("Both"), "<", only("7"), v)
		hold(t, named("Outer"), "-", only("7"), v)
		hold(t, named("Outer"), "-", v, only("7"))
		hold(t, named("Outer"), "-", row("7"), v)
		hold(t, named("Outer"), "-", v, row("7"))
	}
	hold(t, named("Outer"), "*", counted(ints(64), 0), counted(ints(64), -20))
	hold(t, named("Outer"), "*", counted(ints(64), 0), counted(ints(65), -20))
	hold(t, named("Outer"), "*", counted(ints(2), 0), counted(ints(2048), 0))
	hold(t, named("Outer"), "*", counted(ints(2049), 0), counted(ints(2), 0))
	hold(t, named("Outer"), "-", counted(ints(4, 4), 0), counted(ints(256), 0))
	hold(t, named("Outer"), "-", counted(ints(16), 0), counted(ints(16, 16), 0))
	hold(t, named("Each"), "!", filled(ints(64), "64"), zero)
	hold(t, named("Each"), "!", filled(ints(65), "64"), zero)
	hold(t, named("Each"), ",", counted(ints(4096), 0), zero)
	hold(t, named("Reduce"), ",", counted(ints(300), 0), zero)
	hold(t, named("Reduce"), ",", counted(ints(64, 64), 0), zero)
	hold(t, named("Both"), ",", counted(ints(2048), 0), counted(ints(2048), 5))
	hold(t, named("Both"), ",", counted(ints(2049), 0), only("5"))
}

func TestLastOfScanIsReduce(t *testing.T) { // P17.3: and what Reduce fails at, Scan does
	holds := func(make func() prim.Verb, v api.Val) {
		t.Helper()
		last, err := adverb.Reduce(make(), v)
		all, scanErr := adverb.Scan(make(), v)
		if err != api.OK && scanErr != err {
			t.Errorf("of %s Reduce tells %d, and Scan %d", short(v), err, scanErr)
		}
		if scanErr != api.OK {
			return
		}
		item, ok := val.Item(all, val.Many(all)-1)
		if !ok || err != api.OK || !like(item, last) || !slices.Equal(all.Shape, append(ints(v.Shape[0]), last.Shape...)) {
			t.Errorf("of %s Reduce tells %s, %d, and Scan %s", short(v), short(last), err, short(all))
		}
	}
	for _, v := range good() {
		if len(v.Shape) == 0 || v.Shape[0] == 0 {
			continue
		}
		for _, op := range append(signs(twos), "", "F") {
			holds(func() prim.Verb { return prim.Sign(op) }, v)
		}
		for _, make := range spies() {
			holds(func() prim.Verb { return make() }, v)
		}
	}
}

func TestItemByItemAsAtOnce(t *testing.T) { // P17.3: of one array, of two alike, and of one that has no axis on each side
	r := random(4)
	for _, s := range append(small(), hollow()...) {
		for range 4 {
			v, w, n := r.array(s), r.array(s), r.array(nil)
			for _, op := range signs(spreadOnes) {
				want, err := prim.Sign(op).One(v)
				tells(t, "Each", prim.Sign(op), v, zero, want, err)
			}
			for _, op := range signs(spreadTwos) {
				for _, both := range [][2]api.Val{{v, w}, {v, n}, {n, v}, {v, r.upTo(s, 4)}, {v, r.upTo(nil, 2)}} {
					want, err := prim.Sign(op).Two(both[0], both[1])
					tells(t, "Both", prim.Sign(op), both[0], both[1], want, err)
				}
			}
		}
	}
	for _, op := range signs(spreadTwos) {
		for _, l := range texts("5 6", "5", "") {
			_, err := prim.Sign(op).Two(row("1 2 3"), row(l))
			tells(t, "Both", prim.Sign(op), row("1 2 3"), row(l), zero, err)
		}
	}
}

func TestNilAndEmpty(t *testing.T) { // R2: of shapes, and of elements
	for _, s := range [][]int{nil, {}, make([]int, 0, 5)} {
		tells(t, "Each", prim.Sign("-"), of(s, "5"), zero, only("-5"), api.OK)
		for _, c := range texts("Reduce", "Scan", "Prior") {
			tells(t, c, prim.Sign("-"), of(s, "5"), zero, only("5"), api.OK)
		}
		for _, c := range texts("Both", "Outer") {
			tells(t, c, prim.Sign("-"), of(s, "5"), of(s, "3"), only("2"), api.OK)
			tells(t, c, prim.Sign("-"), of(s, "5"), row("3 4"), row("2 1"), api.OK)
			tells(t, c, prim.Sign("-"), row("3 4"), of(s, "5"), row("-2 -1"), api.OK)
			tells(t, c, prim.Sign("-"), of(s), row("3 4"), zero, api.ErrArg)
			tells(t, c, prim.Sign("-"), row("3 4"), of(s), zero, api.ErrArg)
		}
		for _, elems := range [][]string{nil, {}, make([]string, 0, 5)} {
			none := of(ints(0), elems...)
			none.Elems = elems
			tells(t, "Reduce", prim.Sign("*"), none, zero, only("1"), api.OK)
			for _, c := range texts("Each", "Scan", "Prior", "Both", "Outer") {
				tells(t, c, prim.Sign("-"), none, none, row(""), api.OK)
			}
			tells(t, "Outer", prim.Sign("-"), row("1 2"), none, of(ints(2, 0)), api.OK)
			tells(t, "Both", prim.Sign("-"), of(s, "1"), none, row(""), api.OK)
			tells(t, "Both", prim.Sign("-"), none, of(s, "1"), row(""), api.OK)
			hollow := of(ints(2, 0))
			hollow.Elems = elems
			for _, c := range calls() {
				hold(t, c, "+", hollow, hollow)
				hold(t, c, ",", hollow, of(s, "1"))
			}
			for _, c := range calls() {
				tells(t, c.name, prim.Sign("-"), of(s, elems...), only("1"), zero, api.ErrArg)
			}
		}
	}
}

// spoil writes all over an array, also behind its lists' ends.
func spoil(v api.Val) {
	axes, elems := v.Shape[:cap(v.Shape)], v.Elems[:cap(v.Elems)]
	for i := range axes {
		axes[i] = -77
	}
	for i := range elems {
		elems[i] = "spoilt"
	}
}

// room is an array with all that is behind its lists.
func room(v api.Val) api.Val {
	return of(v.Shape[:cap(v.Shape)], v.Elems[:cap(v.Elems)]...)
}

// some are pairs of arrays of which something comes out of one call or more, or of which one may not be, or has an error.
func some() [][2]api.Val {
	l := [][2]api.Val{{only("5"), only("3")}, {only("2"), row("7 8 9")}, {row("7 8 9"), only("2")}, {row("5 6 7"), row("2 1 1")}, {row("1 2"), of(ints(2), "1", "x")}, {row("1 2"), row("1 0")}, {row("1 2"), row("1 2 3")}, {row(nines(100) + " 1"), row("1 2")}, {of(ints(-1)), only("1")}, {row("2 2"), row("2 0")}, {only("2"), grid(ints(3, 2), "1 2 3 4 5 6")}, {grid(ints(3, 2), "1 2 3 4 5 6"), row("2 0 1")}, {grid(ints(3, 2), "1 2 3 4 5 6"), grid(ints(3, 1), "0 1 1")}, {row("7"), grid(ints(1, 2), "3 4")}}
	for _, s := range [][]int{ints(0), ints(1), ints(4), ints(2, 3), ints(1, 3), ints(0, 3), ints(3, 0), ints(2, 1, 2), ints(1, 2, 2), ints(3, 0, 1), ints(0, 2, 2), ints(0, furthest), ints(2, 0, furthest)} {
		l = append(l, [2]api.Val{counted(s, 1), counted(s, 0)}, [2]api.Val{counted(s, 1), only("1")}, [2]api.Val{only("1"), counted(s, 1)}, [2]api.Val{counted(s, 1), row("")}, [2]api.Val{counted(s, 1), row("3")})
	}
	return l
}

// answers are those of all calls, of some signs and of a spy, to two arrays, each in each place, and the same one in both.
func answers(l [2]api.Val) (told []api.Val, errs []api.Errno) {
	verbs := []func() prim.Verb{func() prim.Verb { return &spy{tells: growing, unit: row("1 2"), has: true} }, func() prim.Verb { return nil }}
	for _, op := range texts("+", "-", "*", ",", "#", "@", "^", "%", "!", "|", "=", "F") {
		verbs = append(verbs, func() prim.Verb { return prim.Sign(op) })
	}
	for _, c := range calls() {
		for _, make := range verbs {
			for _, v := range l {
				for _, w := range l {
					x, err := c.do(make(), v, w)
					told, errs = append(told, x), append(errs, err)
				}
			}
		}
	}
	return told, errs
}

func TestWhatIsHandedInStays(t *testing.T) { // R3: also behind its lists' ends, and if it is handed in twice, and what is told is written over
	for _, l := range some() {
		own := [2]api.Val{copied(l[0]), copied(l[1])}
		kept := [2]api.Val{copied(room(own[0])), copied(room(own[1]))}
		all, _ := answers(own)
		for i := -1; i < len(all); i++ { // ahead of what is written over, and behind each
			if i >= 0 {
				spoil(all[i])
			}
			for j, v := range own {
				if !like(room(v), kept[j]) {
					t.Fatalf("%s: the array %d is %s behind answer %d", short(l[:]...), j, short(v), i)
				}
			}
		}
	}
}

func TestWhatIsToldStays(t *testing.T) { // R3: what was handed in is written over then, and so is what is told once more, and what else was told
	for _, l := range some() {
		own := [2]api.Val{copied(l[0]), copied(l[1])}
		all, _ := answers(own)
		var kept []api.Val
		for _, told := range all {
			kept = append(kept, copied(told))
		}
		again, _ := answers(own)
		for _, told := range again {
			spoil(told)
		}
		for _, v := range own {
			spoil(v)
		}
		for i, told := range all {
			if !like(told, kept[i]) {
				t.Errorf("answer %d to %s was %s, and is %s", i, short(l[:]...), short(kept[i]), short(told))
			}
			spoil(told)
		}
	}
}

func TestAnswersHangOnNothingElse(t *testing.T) { // R4: asked again in reverse, from four sides at once
	var first [][]api.Val
	var firstErrs [][]api.Errno
	for _, l := range some() {
		told, errs := answers(l)
		first, firstErrs = append(first, told), append(firstErrs, errs)
	}
	var all sync.WaitGroup
	for range 4 {
		all.Go(func() {
			for i, l := range slices.Backward(some()) {
				told, errs := answers(l)
				if !slices.EqualFunc(told, first[i], like) || !slices.Equal(errs, firstErrs[i]) {
					t.Errorf("%s: %v, %v, then %v, %v", short(l[:]...), first[i], firstErrs[i], told, errs)
				}
			}
		})
	}
	all.Wait()
}

func TestNothingBesideErrors(t *testing.T) { // R1: an answer is an array that may be, or an error alone
	r := random(5)
	l := slices.DeleteFunc(append(good(), bad()...), func(v api.Val) bool { return len(v.Shape) > 0 && v.Shape[0] > 60 })
	for i, v := range l {
		told, errs := answers([2]api.Val{v, l[r.below(len(l))]})
		for j, x := range told {
			if val.May(x) != (errs[j] == api.OK) || errs[j] != api.OK && !like(x, zero) {
				t.Errorf("answer %d to array %d, %s: %s, %d", j, i, short(v), short(x), errs[j])
			}
		}
	}
}

func TestLongAxes(t *testing.T) { // without an element: up to the longest axes that may be, in each place
	leaveIfWrong(t)
	shapes := append(hollow(), long()...)
	for _, s := range shapes {
		v := of(s)
		for _, c := range calls() {
			for _, op := range texts("-", "+", "%", "=", "") {
				hold(t, c, op, v, v)
				hold(t, c, op, v, only("2"))
				hold(t, c, op, v, row("1 2"))
				if c.of == 2 {
					hold(t, c, op, only("2"), v)
					hold(t, c, op, row("1 2 3"), v)
				}
			}
			for _, make := range spies() {
				holdSpy(t, c, make, v, v)
				holdSpy(t, c, make, v, row("1 2 3"))
				holdSpy(t, c, make, row("1 2 3"), v)
			}
		}
	}
	tells(t, "Each", prim.Sign("#"), of(ints(3, furthest, 0)), zero, row(strings.Repeat("1099511627776 ", 3)), api.OK)
	tells(t, "Each", prim.Sign("="), of(ints(2, 0, furthest)), zero, grid(ints(2, 2), "0 1099511627776 0 1099511627776"), api.OK)
	tells(t, "Each", prim.Sign("-"), of(ints(3, furthest, 0)), zero, of(ints(3, furthest, 0)), api.OK)
	tells(t, "Reduce", prim.Sign("+"), of(ints(3, furthest, 0)), zero, of(ints(furthest, 0)), api.OK)
	tells(t, "Scan", prim.Sign("+"), of(ints(2, 0, furthest)), zero, of(ints(2, 0, furthest)), api.OK)
	tells(t, "Prior", prim.Sign("-"), of(ints(2, furthest, 0)), zero, of(ints(2, furthest, 0)), api.OK)
	tells(t, "Both", prim.Sign("-"), of(ints(2, furthest, 0)), row("1 2"), of(ints(2, furthest, 0)), api.OK)
	tells(t, "Outer", prim.Sign("-"), row("1 2"), of(ints(1, 0)), of(ints(2, 1, 0)), api.OK)
	tells(t, "Outer", prim.Sign("-"), row("1 2"), of(ints(0, furthest)), of(ints(2, 0, furthest)), api.OK)
}

func TestNotAsMany(t *testing.T) { // P17.2: ErrShape first, whatever the items, and no verb is asked
	leaveIfWrong(t)
	for _, a := range append(small(), append(hollow(), endless()...)...) {
		for _, b := range append(small(), append(long(), endless()...)...) {
			if len(a) == 0 || len(b) == 0 || a[0] == b[0] {
				continue
			}
			asks(t, "Both", &spy{tells: number, fails: 1, err: api.ErrName}, counted(a, 0), counted(b, 0), zero, api.ErrShape)
			asks(t, "Both", &spy{tells: number, fails: 1, err: api.ErrName}, counted(b, 0), counted(a, 0), zero, api.ErrShape)
		}
	}
}

func TestNoItem(t *testing.T) { // P17.1, P17.2: an array itself, whatever the verb, and it isn't asked
	leaveIfWrong(t)
	none := [][]int{ints(0), ints(0, 0), ints(0, 3), ints(0, 1, 1), ints(0, 3, 2), ints(0, 0, 2), ints(0, furthest), ints(0, furthest, furthest), ints(0, 4097, 0)}
	failing := func() *spy { return &spy{fails: 1, err: api.ErrName} }
	for _, s := range none {
		for _, name := range texts("Each", "Scan", "Prior") {
			asks(t, name, failing(), of(s), zero, of(s), api.OK)
			for _, op := range append(signs(twos), "", "F") {
				tells(t, name, prim.Sign(op), of(s), zero, of(s), api.OK)
			}
		}
		for _, x := range append(none, nil) {
			if len(x) > 0 {
				asks(t, "Both", failing(), of(s), of(x), of(s), api.OK)
				asks(t, "Both", failing(), of(x), of(s), of(x), api.OK)
				asks(t, "Outer", failing(), of(x), of(s), of(x), api.OK)
			} else {
				asks(t, "Both", failing(), of(s), only("5"), of(s), api.OK)
				asks(t, "Both", failing(), only("5"), of(s), of(s), api.OK)
				asks(t, "Outer", failing(), only("5"), of(s), of(s), api.OK)
			}
		}
		for _, x := range slices.Concat(small(), long(), endless()) {
			asks(t, "Outer", failing(), of(s), counted(x, 0), of(s), api.OK)
		}
		for n := range 4 {
			if want := append(ints(n+1), s...); len(want) < 4 {
				asks(t, "Outer", failing(), counted(ints(n+1), 0), of(s), of(want), api.OK)
				asks(t, "Outer", failing(), counted(ints(n+1, 2), 0), of(s), of(want), api.OK)
			} else {
				asks(t, "Outer", failing(), counted(ints(n+1), 0), of(s), zero, api.ErrRank)
			}
		}
	}
}

func TestMayNotBeOfVeryMany(t *testing.T) { // ErrArg, ahead of all else: as TestMayNotBe, of more items than any call goes through
	leaveIfWrong(t)
	mayNotBe(t, slices.DeleteFunc(bad(), func(v api.Val) bool { return !veryMany(v) }))
}

func TestNilVerbOfVeryMany(t *testing.T) { // ErrArg, ahead of all else: of more items than any call goes through
	leaveIfWrong(t)
	for _, s := range endless() {
		for _, c := range calls() {
			tells(t, c.name, nil, of(s), of(s), zero, api.ErrArg)
			tells(t, c.name, nil, of(s), only("1"), zero, api.ErrArg)
			tells(t, c.name, prim.Sign("-"), of(s, "1"), of(s), zero, api.ErrArg)
			if c.of == 2 {
				tells(t, c.name, nil, row("1 2"), of(s), zero, api.ErrArg)
				tells(t, c.name, prim.Sign("-"), of(s), of(s, "1"), zero, api.ErrArg)
			}
		}
	}
}
