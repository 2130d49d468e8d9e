// Package word is layer 1: bytes as numbers, the lowest byte first.
package word

import (
	"bytes"

	"ecdysis/api"
)

// Size is how many bytes a value of a kind has: 0 of Bytes, and of what is no kind.
func Size(kind int) int {
	size := 1
	switch kind {
	case api.U64, api.I64, api.F64, api.Ref:
		size *= 2
		fallthrough
	case api.U32, api.I32:
		size *= 2
		fallthrough
	case api.U16, api.I16:
		size *= 2
		fallthrough
	case api.U8, api.I8, api.Bool:
		return size
	}
	return 0
}

// Put answers b with n behind it, and true; or b, and false, if n is no number of that width.
func Put(b []byte, width int, n uint64) ([]byte, bool) {
	if !Fits(n, width, false) {
		return bytes.Clone(b), false
	}
	// Not append: the room behind b may be somebody else's.
	out := make([]byte, len(b)+width)
	copy(out, b)
	lay(out[len(b):], width, n)
	return out, true
}

// Get answers the number that stands in b from at on, and true; or 0 and false, if none of that width does.
func Get(b []byte, at, width int) (uint64, bool) {
	if !holds(b, at, width) {
		return 0, false
	}
	var n uint64
	for i := range width {
		n |= uint64(b[at+i]) << (8 * i)
	}
	return n, true
}

// Set answers bytes that are as b, but for n from at on, and true; or none and false, where Put or Get is false.
func Set(b []byte, at, width int, n uint64) ([]byte, bool) {
	if !holds(b, at, width) || !Fits(n, width, false) {
		return nil, false
	}
	out := bytes.Clone(b)
	lay(out[at:], width, n)
	return out, true
}

// Sign answers n with the highest bit of its lowest bytes in all bits above, too; or n itself, if it is no width.
func Sign(n uint64, width int) uint64 {
	if isWidth := widths(); !isWidth(width) {
		return n
	}
	above := 8 * (api.Word - width)
	// A signed number that goes to the right is filled up with its sign.
	return uint64(int64(n<<above) >> above)
}

// Fits tells whether n is what its lowest bytes say, without a sign or with one; false, if it is no width.
func Fits(n uint64, width int, signed bool) bool {
	if isWidth := widths(); !isWidth(width) {
		return false
	}
	if signed {
		return Sign(n, width) == n
	}
	return n>>(8*width) == 0
}

// Pad answers b with bytes 0 behind it, up to whole words.
func Pad(b []byte) []byte {
	words := (len(b) + api.Word - 1) / api.Word
	out := make([]byte, words*api.Word)
	copy(out, b)
	return out
}

// widths makes the question whether a number is a width, so that what a width is stands in one place.
func widths() func(width int) bool {
	list := [...]int{1, 2, 4, 8}
	return func(width int) bool {
		for _, one := range list {
			if width == one {
				return true
			}
		}
		return false
	}
}

// holds tells whether a number of that width stands in b from at on.
func holds(b []byte, at, width int) bool {
	isWidth := widths()
	// Not at+width: that may wrap round.
	return isWidth(width) && at >= 0 && at <= len(b)-width
}

// lay writes the lowest bytes of n over those that b begins with.
func lay(b []byte, width int, n uint64) {
	for i := range width {
		b[i] = byte(n >> (8 * i))
	}
}
