// Package fixed is layer 1: numbers with eight bits behind the point (see shared/doc/01-fixed.md).
package fixed

import (
	"strconv"
	"strings"

	"limner/api"
)

const (
	// partBits is how many bits of a coordinate stand behind the point: api.One is 1 << partBits.
	partBits = 8
	partMask = api.One - 1

	// A 256th is 390625 of the hundred millionths that eight digits tell, so eight are enough.
	partDigits = 8
	partScale  = 100_000_000
	partStep   = partScale / api.One

	// wholeBits hold the whole part of every coordinate in room.
	wholeBits = 24
)

// In tells whether a is in room.
func In(a int) bool { return -api.MaxCoord <= a && a <= api.MaxCoord }

// Add tells a and b.
func Add(a, b int) (int, api.Errno) {
	if !bothIn(a, b) {
		return 0, api.ErrOverflow
	}
	return inRoom(a + b)
}

// Sub tells a less b.
func Sub(a, b int) (int, api.Errno) {
	if !bothIn(a, b) {
		return 0, api.ErrOverflow
	}
	return inRoom(a - b)
}

// Mul tells a times b, rounded to 256ths.
func Mul(a, b int) (int, api.Errno) {
	if !bothIn(a, b) {
		return 0, api.ErrOverflow
	}
	// No wrap: a product of numbers in room is at most 2^62.
	return inRoom(nearest(a * b))
}

// Div tells a by b, rounded to 256ths.
func Div(a, b int) (int, api.Errno) {
	if !bothIn(a, b) {
		return 0, api.ErrOverflow
	}
	if b == 0 {
		return 0, api.ErrZero
	}
	return inRoom(quotient(a<<partBits, b))
}

// Floor tells the greatest whole number that is not above a 256ths.
func Floor(a int) int { return a >> partBits }

// Ceil tells the least whole number that is not below a 256ths.
func Ceil(a int) int {
	// Not by adding 255 ahead of the shift: that wraps near the greatest int.
	if a&partMask == 0 {
		return a >> partBits
	}
	return a>>partBits + 1
}

// Near tells the whole number nearest to a 256ths, of two the greater.
func Near(a int) int { return nearest(a) }

// Text tells a coordinate in decimal digits; empty, if it is not in room.
func Text(a int) string {
	if !In(a) {
		return ""
	}
	sign := ""
	if a < 0 {
		sign, a = "-", -a
	}
	return sign + strconv.Itoa(a>>partBits) + partText(a&partMask)
}

// Parse tells the coordinate whose Text is s.
func Parse(s string) (int, api.Errno) {
	a, ok := read(s)
	// read takes more than Text writes (noughts at the ends, a minus before 0, too fine a part,
	// numbers out of room, whose Text is empty as no s is that was read); to hold s against Text
	// leaves each coordinate its one text.
	if !ok || Text(a) != s {
		return 0, api.ErrForm
	}
	return a, api.OK
}

func bothIn(a, b int) bool { return In(a) && In(b) }

func inRoom(n int) (int, api.Errno) {
	if !In(n) {
		return 0, api.ErrOverflow
	}
	return n, api.OK
}

// nearest divides by 256 and rounds.
func nearest(n int) int {
	// The first bit behind the point says whether the half is reached; to add 128 ahead of the
	// shift would wrap near the greatest int.
	return n>>partBits + n>>(partBits-1)&1
}

// quotient divides n by d, which is not 0, and rounds.
func quotient(n, d int) int {
	if d < 0 {
		n, d = -n, -d
	}
	q, rest := n/d, n%d
	// Go's division goes toward 0; the rest must be from 0 to d - 1.
	if rest < 0 {
		q, rest = q-1, rest+d
	}
	if rest >= d-rest {
		q++
	}
	return q
}

// partText tells a part behind the point, the point with it; empty, if there is none.
func partText(part int) string {
	if part == 0 {
		return ""
	}
	// The 1 ahead keeps the noughts that lead the part.
	digits := strconv.Itoa(partScale + part*partStep)[1:]
	return "." + strings.TrimRight(digits, "0")
}

// read takes a minus or none, digits, and a point with digits or none.
func read(s string) (a int, ok bool) {
	size, minus := strings.CutPrefix(s, "-")
	front, behind, _ := strings.Cut(size, ".")
	whole, err := strconv.ParseUint(front, 10, wholeBits)
	if err != nil {
		return 0, false
	}
	part, ok := readPart(behind)
	if !ok {
		return 0, false
	}
	a = int(whole)<<partBits + part
	if minus {
		a = -a
	}
	return a, true
}

// readPart tells how many 256ths the digits behind the point are.
func readPart(digits string) (part int, ok bool) {
	if len(digits) > partDigits {
		return 0, false
	}
	padded := digits + strings.Repeat("0", partDigits-len(digits))
	n, err := strconv.ParseUint(padded, 10, 32)
	if err != nil {
		return 0, false
	}
	return int(n) / partStep, true
}
