package num

import (
	"cmp"
	"strconv"
)

// A part has nine figures: two of them multiplied, and two more, fit 64 bits.
const (
	perPart = 9
	base    = 1_000_000_000
)

// size is how far a number is from 0, as parts below base, the least one first; the last one is never 0.
type size []uint32

// trimmed is a size without the zeros at its end.
func (a size) trimmed() size {
	for len(a) > 0 && a[len(a)-1] == 0 {
		a = a[:len(a)-1]
	}
	return a
}

// readSize is the size that figures are.
func readSize(figures string) size {
	a := make(size, 0, len(figures)/perPart+1)
	for end := len(figures); end > 0; end -= perPart {
		a = append(a, readPart(figures[max(end-perPart, 0):end]))
	}
	return a.trimmed()
}

func readPart(figures string) uint32 {
	var p uint32
	for i := range len(figures) {
		p = p*10 + uint32(figures[i]-'0')
	}
	return p
}

func (a size) figures() string {
	if len(a) == 0 {
		return zero
	}
	last := len(a) - 1
	text := strconv.AppendUint(nil, uint64(a[last]), 10)
	for i := last - 1; i >= 0; i-- {
		withOne := strconv.FormatUint(base+uint64(a[i]), 10) // the one ahead keeps the zeros
		text = append(text, withOne[1:]...)
	}
	return string(text)
}

// compared tells which of two sizes is greater.
func (a size) compared(b size) int {
	if c := cmp.Compare(len(a), len(b)); c != 0 {
		return c
	}
	for i := len(a) - 1; i >= 0; i-- {
		if c := cmp.Compare(a[i], b[i]); c != 0 {
			return c
		}
	}
	return 0
}

// and is two sizes together.
func (a size) and(b size) size {
	if len(a) < len(b) {
		a, b = b, a
	}
	sum := make(size, len(a)+1)
	copy(sum, a)
	sum.raise(b)
	return sum.trimmed()
}

// less is a size less another one, which isn't greater.
func (a size) less(b size) size {
	left := make(size, len(a))
	copy(left, a)
	left.lower(b, 1)
	return left.trimmed()
}

func (a size) multiplied(b size) size {
	product := make(size, len(a)+len(b))
	for i, p := range a {
		var carry uint64
		for j, q := range b {
			carry += uint64(product[i+j]) + uint64(p)*uint64(q)
			product[i+j] = uint32(carry % base)
			carry /= base
		}
		product[i+len(b)] = uint32(carry)
	}
	return product.trimmed()
}

// raise adds b to a in place, in as many parts as a has, and tells whether it went over these.
func (a size) raise(b size) bool {
	var carry uint32
	for i := range a {
		carry += a[i]
		if i < len(b) {
			carry += b[i]
		}
		a[i] = carry % base
		carry /= base
	}
	return carry > 0
}

// lower takes b from a in place, so often, and tells whether it went below 0 (and so round).
func (a size) lower(b size, often uint64) bool {
	var owed uint64
	for i := range a {
		if i < len(b) {
			owed += often * uint64(b[i])
		}
		part := uint32(owed % base)
		owed /= base
		if a[i] < part {
			a[i] += base
			owed++
		}
		a[i] -= part
	}
	return owed > 0
}

// cut is a divided by b, which isn't 0, rounded towards 0, and what is left of it.
func (a size) cut(b size) (quotient, left size) {
	switch {
	case a.compared(b) < 0:
		return nil, a
	case len(b) > 1:
		return a.cutLong(b)
	}
	quotient, rest := a.cutByPart(b[0])
	return quotient, size{rest}.trimmed()
}

func (a size) cutByPart(p uint32) (quotient size, left uint32) {
	quotient = make(size, len(a))
	var rest uint64
	for i := len(a) - 1; i >= 0; i-- {
		rest = rest*base + uint64(a[i])
		quotient[i] = uint32(rest / uint64(p))
		rest %= uint64(p)
	}
	return quotient.trimmed(), uint32(rest)
}

// cutLong is cut for a b of two parts or more, which a isn't below, part by part.
func (a size) cutLong(b size) (quotient, left size) {
	// Both are scaled, so that b's last part is at least half of base: a guess by it is then too large by 2 at most.
	scale := base / (b[len(b)-1] + 1)
	divisor := b.multiplied(size{scale})
	rest := make(size, len(a)+1)
	copy(rest, a.multiplied(size{scale}))
	quotient = make(size, len(a)-len(b)+1)
	for i := len(quotient) - 1; i >= 0; i-- {
		quotient[i] = rest[i : i+len(b)+1].takeOut(divisor)
	}
	left, _ = rest.trimmed().cutByPart(scale)
	return quotient.trimmed(), left
}

// takeOut takes b, which has one part less, from a in place, as often as it goes, and tells how often: it goes less than base times.
func (a size) takeOut(b size) uint32 {
	last := len(b) - 1
	often := (uint64(a[last+1])*base + uint64(a[last])) / uint64(b[last]) // a guess
	for below := a.lower(b, often); below; often-- {
		below = !a.raise(b)
	}
	return uint32(often)
}
