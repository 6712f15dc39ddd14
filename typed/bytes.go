package typed

import (
	"slices"

	"reredos/api"
	"reredos/width"
)

// perByte is how many bits a byte has.
const perByte = 8

// isWidth tells whether a typed array may have a width: 0 fits all that there are, Big among them.
func isWidth(w int) bool {
	return w != api.Big && width.Fits(0, w)
}

// bytesOf is how many bytes an element of a width has.
func bytesOf(w int) int {
	return w / perByte
}

// packed is the array of a shape whose elements are numbers that fit a width.
func packed(w int, s []int, l []int64) Typed {
	data := make([]byte, 0, len(l)*bytesOf(w))
	for _, x := range l {
		data = laid(data, x, w)
	}
	return Typed{Width: w, Shape: slices.Clone(s), Data: string(data)}
}

// laid is data with a number's bytes behind it, the highest one first. Below 0 an int64's low bits are those of the 2^w more that are asked for.
func laid(data []byte, x int64, w int) []byte {
	each := bytesOf(w)
	for i := range each {
		below := each - 1 - i
		data = append(data, byte(x>>(perByte*below)))
	}
	return data
}

// read is the number that bytes are, of which there is one at least.
func read(data string) int64 {
	x := int64(int8(data[0])) // the highest byte alone has the sign
	for i := range len(data) - 1 {
		x = x<<perByte | int64(data[i+1])
	}
	return x
}
