package affine_test

import (
	"math"
	"math/big"
	"slices"
	"testing"

	"limner/affine"
	"limner/api"
	"limner/geom"
	"limner/wide"
)

const (
	// far is the last number in room, and most the greatest entry.
	far  = api.MaxCoord
	most = api.MaxEntry
	unit = 65536
)

type matrix = affine.Matrix

func at(x, y int) geom.Point { return geom.Point{X: x, Y: y} }

func box(x0, y0, x1, y1 int) geom.Box { return geom.Box{X0: x0, Y0: y0, X1: x1, Y1: y1} }

// stepper tells numbers that look like chance, the same in every run: from -2^(bits-1) up to 2^(bits-1) - 1.
func stepper() func(bits int) int {
	state := uint64(0x9e3779b97f4a7c15)
	return func(bits int) int {
		state ^= state << 13
		state ^= state >> 7
		state ^= state << 17
		return int(int64(state) >> (64 - bits))
	}
}

// anyMatrix is one whose entries have so many bits, and E and F so many.
func anyMatrix(next func(bits int) int, entry, coord int) matrix {
	return matrix{A: next(entry), B: next(entry), C: next(entry), D: next(entry), E: next(coord), F: next(coord)}
}

func within(n, bound int) bool { return n >= -bound && n <= bound }

// wantRight is whether m is right, by the words of the document.
func wantRight(m matrix) bool {
	for _, n := range []int{m.A, m.B, m.C, m.D} {
		if !within(n, 16777216) {
			return false
		}
	}
	return within(m.E, 2147483648) && within(m.F, 2147483648)
}

// sum is p times q and r times s together, exactly.
func sum(p, q, r, s int) *big.Int {
	n := new(big.Int).Mul(big.NewInt(int64(p)), big.NewInt(int64(q)))
	return n.Add(n, new(big.Int).Mul(big.NewInt(int64(r)), big.NewInt(int64(s))))
}

// rounded is n by 65536, the nearest whole number, of two the greater.
func rounded(n *big.Int) int {
	x := new(big.Rat).SetFrac(n, big.NewInt(unit))
	x.Add(x, big.NewRat(1, 2))
	// Div rounds down, for what is below 0 too, as the denominator is above 0.
	return int(new(big.Int).Div(x.Num(), x.Denom()).Int64())
}

// wantApply is what m makes of p, by exact numbers.
func wantApply(m matrix, p geom.Point) (geom.Point, api.Errno) {
	if !wantRight(m) || !within(p.X, far) || !within(p.Y, far) {
		return geom.Point{}, api.ErrOverflow
	}
	q := at(rounded(sum(m.A, p.X, m.C, p.Y))+m.E, rounded(sum(m.B, p.X, m.D, p.Y))+m.F)
	if !within(q.X, far) || !within(q.Y, far) {
		return geom.Point{}, api.ErrOverflow
	}
	return q, api.OK
}

// wantThen is m and then o, by exact numbers.
func wantThen(m, o matrix) (matrix, api.Errno) {
	if !wantRight(m) || !wantRight(o) {
		return matrix{}, api.ErrOverflow
	}
	p, e := wantApply(o, at(m.E, m.F))
	n := matrix{
		A: rounded(sum(o.A, m.A, o.C, m.B)), B: rounded(sum(o.B, m.A, o.D, m.B)),
		C: rounded(sum(o.A, m.C, o.C, m.D)), D: rounded(sum(o.B, m.C, o.D, m.D)),
		E: p.X, F: p.Y,
	}
	if e != api.OK || !wantRight(n) {
		return matrix{}, api.ErrOverflow
	}
	return n, api.OK
}

// wantBound is the bound of what m makes of the corners of b, by exact numbers.
func wantBound(m matrix, b geom.Box) (geom.Box, api.Errno) {
	if !wantRight(m) {
		return geom.Box{}, api.ErrOverflow
	}
	if b.X0 >= b.X1 || b.Y0 >= b.Y1 {
		return geom.Box{}, api.OK
	}
	var xs, ys []int
	for _, p := range []geom.Point{at(b.X0, b.Y0), at(b.X0, b.Y1-1), at(b.X1-1, b.Y0), at(b.X1-1, b.Y1-1)} {
		q, e := wantApply(m, p)
		if e != api.OK {
			return geom.Box{}, e
		}
		xs, ys = append(xs, q.X), append(ys, q.Y)
	}
	return box(slices.Min(xs), slices.Min(ys), slices.Max(xs)+1, slices.Max(ys)+1), api.OK
}

func checkRight(t *testing.T, m matrix) {
	t.Helper()
	if got, want := m.Right(), wantRight(m); got != want {
		t.Errorf("%v.Right: %t; want %t", m, got, want)
	}
}

func checkApply(t *testing.T, m matrix, p geom.Point) {
	t.Helper()
	got, e := m.Apply(p)
	if want, wantErr := wantApply(m, p); got != want || e != wantErr {
		t.Errorf("%v.Apply(%v): %v, %d; want %v, %d", m, p, got, e, want, wantErr)
	}
}

func checkThen(t *testing.T, m, o matrix) {
	t.Helper()
	got, e := m.Then(o)
	if want, wantErr := wantThen(m, o); got != want || e != wantErr {
		t.Errorf("%v.Then(%v): %v, %d; want %v, %d", m, o, got, e, want, wantErr)
	}
}

func checkBound(t *testing.T, m matrix, b geom.Box) {
	t.Helper()
	got, e := m.Bound(b)
	if want, wantErr := wantBound(m, b); got != want || e != wantErr {
		t.Errorf("%v.Bound(%v): %v, %d; want %v, %d", m, b, got, e, want, wantErr)
	}
}

// nearRight are matrices that are right but for at most one number, which is about an end of what is right.
func nearRight() []matrix {
	var l []matrix
	for _, end := range []int{most, far, 1 << 32, 1 << 40} {
		for _, n := range []int{end - 1, end, end + 1, -end + 1, -end, -end - 1} {
			l = append(l, matrix{A: n}, matrix{B: n}, matrix{C: n}, matrix{D: n}, matrix{E: n}, matrix{F: n})
		}
	}
	for _, n := range []int{math.MaxInt, math.MinInt, math.MinInt + 1} {
		l = append(l, matrix{A: n}, matrix{B: n}, matrix{C: n}, matrix{D: n}, matrix{E: n}, matrix{F: n})
	}
	return l
}

// P4.1: One, and what it makes of points.
func TestOne(t *testing.T) {
	if got, want := affine.One(), (matrix{A: 65536, D: 65536}); got != want {
		t.Errorf("One: %v; want %v", got, want)
	}
	next := stepper()
	points := []geom.Point{at(0, 0), at(1, -1), at(far, far), at(-far, far), at(far, -far), at(-far, -far)}
	for i := range 1000 {
		points = append(points, at(next(1+i%32), next(1+i/32%32)))
	}
	for _, p := range points {
		if q, e := affine.One().Apply(p); q != p || e != api.OK {
			t.Errorf("One of %v: %v, %d", p, q, e)
		}
	}
}

// P4.1: Move and Scale, of any numbers, right or not.
func TestMoveAndScale(t *testing.T) {
	numbers := []int{0, 1, -1, 7, -9, unit, -unit, most, most + 1, far, -far, far + 1, -far - 1, math.MaxInt, math.MinInt}
	for _, x := range numbers {
		for _, y := range numbers {
			if got, want := affine.Move(x, y), (matrix{A: 65536, D: 65536, E: x, F: y}); got != want {
				t.Errorf("Move(%d, %d): %v; want %v", x, y, got, want)
			}
			if got, want := affine.Scale(x, y), (matrix{A: x, D: y}); got != want {
				t.Errorf("Scale(%d, %d): %v; want %v", x, y, got, want)
			}
		}
	}
}

// P4.1: Quarter, of numbers below 0 and at the ends of ints, too.
func TestQuarter(t *testing.T) {
	want := []matrix{
		{A: 65536, D: 65536},
		{B: 65536, C: -65536},
		{A: -65536, D: -65536},
		{B: -65536, C: 65536},
	}
	check := func(n, rest int) {
		t.Helper()
		if got := affine.Quarter(n); got != want[rest] {
			t.Errorf("Quarter(%d): %v; want %v", n, got, want[rest])
		}
	}
	for n := -40; n <= 40; n++ {
		check(n, (n+40)%4)
	}
	// The greatest int is 3 modulo 4, and the least is 0.
	for i, rest := range []int{3, 2, 1, 0, 3} {
		check(math.MaxInt-i, rest)
	}
	for i, rest := range []int{0, 1, 2, 3, 0} {
		check(math.MinInt+i, rest)
	}
	// X goes toward Y.
	for n, q := range []geom.Point{at(3, 5), at(-5, 3), at(-3, -5), at(5, -3)} {
		if got, e := affine.Quarter(n).Apply(at(3, 5)); got != q || e != api.OK {
			t.Errorf("Quarter(%d) of (3, 5): %v, %d; want %v", n, got, e, q)
		}
	}
}

// P4.1: what is told stays what it is, whatever is done with what was told ahead.
func TestTableStays(t *testing.T) {
	m := affine.Quarter(1)
	m.A, m.B = 7, 8
	one := affine.One()
	one.A, one.E = 7, 8
	if affine.Quarter(1) != (matrix{B: 65536, C: -65536}) || affine.One() != (matrix{A: 65536, D: 65536}) {
		t.Errorf("%v, %v", affine.Quarter(1), affine.One())
	}
}

// P4.2: each number at the ends of what is right, alone and beside others.
func TestRight(t *testing.T) {
	for _, m := range nearRight() {
		checkRight(t, m)
	}
	for _, m := range []matrix{
		{}, affine.One(), affine.Quarter(1), affine.Scale(most, -most), affine.Move(far, -far),
		{most, most, most, most, far, far}, {-most, -most, -most, -most, -far, -far}, {most, -most, -most, most, -far, far},
	} {
		if !m.Right() {
			t.Errorf("%v.Right: false", m)
		}
	}
	for _, m := range []matrix{
		{most + 1, 0, 0, 0, 0, 0}, {0, most + 1, 0, 0, 0, 0}, {0, 0, most + 1, 0, 0, 0}, {0, 0, 0, most + 1, 0, 0},
		{-most - 1, 0, 0, 0, 0, 0}, {0, -most - 1, 0, 0, 0, 0}, {0, 0, -most - 1, 0, 0, 0}, {0, 0, 0, -most - 1, 0, 0},
		{0, 0, 0, 0, far + 1, 0}, {0, 0, 0, 0, 0, far + 1}, {0, 0, 0, 0, -far - 1, 0}, {0, 0, 0, 0, 0, -far - 1},
		{far, 0, 0, far, 0, 0}, {math.MinInt, 0, 0, 0, 0, 0}, {0, 0, 0, 0, 0, math.MinInt},
	} {
		if m.Right() {
			t.Errorf("%v.Right: true", m)
		}
	}
}

// P4.2: Apply of chosen points.
func TestApplyByHand(t *testing.T) {
	half := affine.Scale(32768, 32768)
	for _, c := range []struct {
		name string
		m    matrix
		p, q geom.Point
		e    api.Errno
	}{
		{"stretched", affine.Scale(131072, 65536), at(3, 5), at(6, 5), api.OK},
		{"turned", affine.Quarter(1), at(3, 5), at(-5, 3), api.OK},
		{"moved", affine.Move(7, -9), at(3, 5), at(10, -4), api.OK},
		{"all six", matrix{65536, 131072, 196608, 262144, 5, 6}, at(7, 11), at(7+33+5, 14+44+6), api.OK},
		{"to one point", matrix{E: 3, F: 4}, at(far, -far), at(3, 4), api.OK},
		{"halves", half, at(1, -1), at(1, 0), api.OK},
		{"halves of three", half, at(3, -3), at(2, -1), api.OK},
		{"halves before moving", matrix{A: 32768, D: 32768, E: -3, F: -3}, at(1, -1), at(-2, -3), api.OK},
		{"below the half", affine.Scale(32767, 32767), at(1, -1), at(0, 0), api.OK},
		{"past the half", affine.Scale(32769, 32769), at(1, -1), at(1, -1), api.OK},
		{"quarters together a half", matrix{A: 16384, B: -16384, C: 16384, D: -16384}, at(1, 1), at(1, 0), api.OK},
		{"halves together a whole", matrix{A: 32768, B: -32768, C: 32768, D: -32768}, at(1, 1), at(1, -1), api.OK},
		{"halves against each other", matrix{A: 32768, B: -32768, C: -32768, D: 32768}, at(1, 1), at(0, 0), api.OK},
		{"to the end of room", affine.Move(1, -1), at(far-1, 1-far), at(far, -far), api.OK},
		{"past X", affine.Move(1, 0), at(far, 0), at(0, 0), api.ErrOverflow},
		{"past X below", affine.Move(-1, 0), at(-far, 0), at(0, 0), api.ErrOverflow},
		{"past Y", affine.Move(0, 1), at(0, far), at(0, 0), api.ErrOverflow},
		{"past Y below", affine.Move(0, -1), at(0, -far), at(0, 0), api.ErrOverflow},
		{"brought back", matrix{A: 131072, D: 131072, E: -far, F: far}, at(far, -far), at(far, -far), api.OK},
		{"greatest", affine.Scale(most, most), at(far/256, -far/256), at(far, -far), api.OK},
		{"greatest, past room", affine.Scale(most, most), at(far/256+1, 0), at(0, 0), api.ErrOverflow},
		{"all greatest", matrix{most, most, most, most, far, far}, at(far, far), at(0, 0), api.ErrOverflow},
		{"all greatest, against each other", matrix{most, -most, -most, most, far, -far}, at(far, far), at(far, -far), api.OK},
		{"no right entry", affine.Scale(most+1, 0), at(0, 0), at(0, 0), api.ErrOverflow},
		{"no right last entry", affine.Scale(0, -most-1), at(0, 0), at(0, 0), api.ErrOverflow},
		{"no right move, back into room", affine.Move(far+1, 0), at(-1, 0), at(0, 0), api.ErrOverflow},
		{"X out of room", affine.One(), at(far+1, 0), at(0, 0), api.ErrOverflow},
		{"Y out of room", affine.One(), at(0, -far-1), at(0, 0), api.ErrOverflow},
		{"out of room, back into it", affine.Move(-5, 0), at(far+1, 0), at(0, 0), api.ErrOverflow},
		{"out of room, to one point", matrix{}, at(far+1, 0), at(0, 0), api.ErrOverflow},
	} {
		if q, e := c.m.Apply(c.p); q != c.q || e != c.e {
			t.Errorf("%s: %v.Apply(%v): %v, %d; want %v, %d", c.name, c.m, c.p, q, e, c.q, c.e)
		}
	}
}

// P4.2: matrices and points of all sizes, and those about the ends of what is right, against exact numbers.
func TestApply(t *testing.T) {
	next := stepper()
	for i := range 60000 {
		entry, coord := 1+i%26, 1+i/26%33
		checkApply(t, anyMatrix(next, entry, coord), at(next(coord), next(coord)))
		checkApply(t, anyMatrix(next, 17, coord), at(next(entry), next(coord)))
	}
	for _, m := range nearRight() {
		checkApply(t, m, at(0, 0))
		checkApply(t, m, at(1, -1))
		checkApply(t, m, at(far/256, far/256))
	}
	for _, x := range []int{far - 1, far, far + 1, -far + 1, -far, -far - 1, math.MaxInt, math.MinInt} {
		for _, m := range []matrix{{}, affine.One(), affine.Quarter(1), affine.Quarter(2), affine.Move(1, 1), affine.Move(-1, -1)} {
			checkApply(t, m, at(x, 0))
			checkApply(t, m, at(0, x))
		}
	}
}

// P4.2: halves are rounded up, below 0 and above it, for each entry.
func TestApplyRounds(t *testing.T) {
	for n := -200000; n <= 200000; n += 61 {
		for _, d := range []int{-1, 0, 1} {
			k := n/unit*unit + unit/2 + d
			checkApply(t, matrix{A: k, B: -k, C: 0, D: 0}, at(1, 0))
			checkApply(t, matrix{A: 0, B: 0, C: k, D: -k}, at(0, 1))
		}
		checkApply(t, matrix{A: n, B: n + 1, C: -n, D: 3 - n}, at(1, 2))
		checkApply(t, matrix{A: 1, B: -1, C: 3, D: -3}, at(n, n+1))
	}
}

// P4.3: chosen matrices.
func TestThenByHand(t *testing.T) {
	for _, c := range []struct {
		name    string
		m, o, n matrix
		e       api.Errno
	}{
		{"moved, turned", affine.Move(5, 6), affine.Quarter(1), matrix{B: 65536, C: -65536, E: -6, F: 5}, api.OK},
		{"turned, moved", affine.Quarter(1), affine.Move(5, 6), matrix{B: 65536, C: -65536, E: 5, F: 6}, api.OK},
		{"moved, stretched", affine.Move(5, 6), affine.Scale(131072, 196608), matrix{A: 131072, D: 196608, E: 10, F: 18}, api.OK},
		{"turned, stretched", affine.Quarter(1), affine.Scale(131072, 196608), matrix{B: 196608, C: -131072}, api.OK},
		{"stretched, turned", affine.Scale(131072, 196608), affine.Quarter(1), matrix{B: 131072, C: -196608}, api.OK},
		{"all numbers", matrix{65536 * 2, 65536 * 3, 65536 * 5, 65536 * 7, 11, 13}, matrix{65536 * 17, 65536 * 19, 65536 * 23, 65536 * 29, 31, 37},
			matrix{65536 * (34 + 69), 65536 * (38 + 87), 65536 * (85 + 161), 65536 * (95 + 203), 187 + 299 + 31, 209 + 377 + 37}, api.ErrOverflow},
		{"all numbers, in room", matrix{6553 * 2, 6553 * 3, 6553 * 5, 6553 * 7, 11, 13}, matrix{65536 * 17, 65536 * 19, 65536 * 23, 65536 * 29, 31, 37},
			matrix{6553 * (34 + 69), 6553 * (38 + 87), 6553 * (85 + 161), 6553 * (95 + 203), 187 + 299 + 31, 209 + 377 + 37}, api.OK},
		{"halves, up", affine.Scale(1, -1), affine.Scale(32768, 32768), matrix{A: 1, D: 0}, api.OK},
		{"halves against, up", affine.Scale(32768, 32768), affine.Scale(-1, 3), matrix{A: 0, D: 2}, api.OK},
		{"halves of the place, ahead of the move", affine.Move(1, -1), matrix{A: 32768, D: 32768, E: -3, F: -3}, matrix{A: 32768, D: 32768, E: -2, F: -3}, api.OK},
		{"to the greatest entry", affine.Scale(1<<20, -1<<20), affine.Scale(1<<20, 1<<20), affine.Scale(most, -most), api.OK},
		{"past it", affine.Scale(1<<20, 0), affine.Scale(1<<20+1, 0), matrix{}, api.ErrOverflow},
		{"greatest twice", affine.Scale(most, most), affine.Scale(most, most), matrix{}, api.ErrOverflow},
		{"to the end of room", affine.Move(far-1, 1-far), affine.Move(1, -1), affine.Move(far, -far), api.OK},
		{"past X", affine.Move(far, 0), affine.Move(1, 0), matrix{}, api.ErrOverflow},
		{"past Y", affine.Move(0, -far), affine.Move(0, -1), matrix{}, api.ErrOverflow},
		{"turned past it", affine.Move(far, 0), matrix{B: 65536, C: 65536, F: 1}, matrix{}, api.ErrOverflow},
		{"nothing left", affine.Move(far, far), matrix{}, matrix{}, api.OK},
		{"the first not right", affine.Scale(most+1, 0), matrix{}, matrix{}, api.ErrOverflow},
		{"the second not right", matrix{}, affine.Scale(0, most+1), matrix{}, api.ErrOverflow},
		{"the first out of room, back into it", affine.Move(far+1, 0), affine.Move(-1, 0), matrix{}, api.ErrOverflow},
		{"the second out of room, back into it", affine.Move(0, -1), affine.Move(0, far+1), matrix{}, api.ErrOverflow},
	} {
		want := c.n
		if c.e != api.OK {
			want = matrix{}
		}
		if n, e := c.m.Then(c.o); n != want || e != c.e {
			t.Errorf("%s: %v.Then(%v): %v, %d; want %v, %d", c.name, c.m, c.o, n, e, want, c.e)
		}
	}
}

// P4.3: matrices of all sizes, and those about the ends of what is right, against exact numbers.
func TestThen(t *testing.T) {
	next := stepper()
	for i := range 60000 {
		entry, coord := 1+i%26, 1+i/26%33
		checkThen(t, anyMatrix(next, entry, coord), anyMatrix(next, 19, coord))
		checkThen(t, anyMatrix(next, 19, 32), anyMatrix(next, entry, 31))
	}
	all := append(nearRight(), affine.One(), affine.Quarter(1), affine.Quarter(2), affine.Move(1, 1), affine.Move(-1, -1), affine.Scale(65537, 65537))
	for _, m := range all {
		for _, o := range all {
			checkThen(t, m, o)
		}
	}
}

// P4.3: what comes out is about an end of what is right, in each of its numbers.
func TestThenAtTheEnds(t *testing.T) {
	for d := -2; d <= 2; d++ {
		for _, n := range []int{unit + d, -unit - d} {
			for s := most - 515; s <= most; s++ {
				for _, m := range []matrix{{A: n}, {B: n}, {C: n}, {D: n}} {
					checkThen(t, m, affine.Scale(s, s))
					checkThen(t, m, matrix{B: s, C: -s})
				}
			}
		}
		for _, m := range []matrix{affine.Move(far/2+d, 0), affine.Move(-far/2-d, 0), affine.Move(0, far/2+d), affine.Move(0, -far/2-d)} {
			for e := -2; e <= 2; e++ {
				checkThen(t, m, matrix{A: 2 * unit, D: 2 * unit, E: e, F: e})
				checkThen(t, m, matrix{B: 2 * unit, C: 2 * unit, E: e, F: e})
			}
		}
	}
}

// P4.4: chosen boxes.
func TestBoundByHand(t *testing.T) {
	notRight := affine.Scale(most+1, 0)
	for _, c := range []struct {
		name    string
		m       matrix
		b, want geom.Box
		e       api.Errno
	}{
		{"itself", affine.One(), box(1, 2, 5, 9), box(1, 2, 5, 9), api.OK},
		{"one point", affine.One(), box(3, 4, 4, 5), box(3, 4, 4, 5), api.OK},
		{"turned", affine.Quarter(1), box(0, 0, 4, 2), box(-1, 0, 1, 4), api.OK},
		{"turned twice", affine.Quarter(2), box(0, 0, 4, 2), box(-3, -1, 1, 1), api.OK},
		{"moved", affine.Move(10, -10), box(0, 0, 4, 2), box(10, -10, 14, -8), api.OK},
		{"stretched", affine.Scale(131072, 196608), box(0, 0, 4, 2), box(0, 0, 7, 4), api.OK},
		{"to one point", matrix{E: 3, F: 4}, box(-9, -9, 9, 9), box(3, 4, 4, 5), api.OK},
		{"aslant", matrix{A: 65536, B: 65536, C: -65536, D: 65536}, box(0, 0, 4, 2), box(-1, 0, 4, 5), api.OK},
		{"aslant the other way", matrix{A: 65536, B: -65536, C: 65536, D: 65536}, box(0, 0, 4, 2), box(0, -3, 5, 2), api.OK},
		{"zero box", affine.Move(5, 5), geom.Box{}, geom.Box{}, api.OK},
		{"no width", affine.Move(5, 5), box(5, 0, 5, 9), geom.Box{}, api.OK},
		{"no height", affine.Move(5, 5), box(0, 5, 9, 5), geom.Box{}, api.OK},
		{"turned round", affine.Move(5, 5), box(5, 5, 1, 1), geom.Box{}, api.OK},
		{"empty, out of room", affine.Move(5, 5), box(far+9, 0, far+9, 1), geom.Box{}, api.OK},
		{"empty, at the ends of ints", affine.One(), box(math.MaxInt, math.MaxInt, math.MinInt, math.MinInt), geom.Box{}, api.OK},
		{"empty, not right", notRight, geom.Box{}, geom.Box{}, api.ErrOverflow},
		{"not right", notRight, box(0, 0, 1, 1), geom.Box{}, api.ErrOverflow},
		{"moved out of room, not right", affine.Move(far+1, 0), box(-5, 0, 1, 1), geom.Box{}, api.ErrOverflow},
		{"all of room", affine.One(), box(-far, -far, far+1, far+1), box(-far, -far, far+1, far+1), api.OK},
		{"all of room, to one point", matrix{}, box(-far, -far, far+1, far+1), box(0, 0, 1, 1), api.OK},
		{"X0 out of room", matrix{}, box(-far-1, 0, 0, 1), geom.Box{}, api.ErrOverflow},
		{"Y0 out of room", matrix{}, box(0, -far-1, 1, 0), geom.Box{}, api.ErrOverflow},
		{"X1 out of room", matrix{}, box(0, 0, far+2, 1), geom.Box{}, api.ErrOverflow},
		{"Y1 out of room", matrix{}, box(0, 0, 1, far+2), geom.Box{}, api.ErrOverflow},
		{"all ints", matrix{}, box(math.MinInt, math.MinInt, math.MaxInt, math.MaxInt), geom.Box{}, api.ErrOverflow},
		{"the last ints", matrix{}, box(math.MaxInt-1, math.MaxInt-1, math.MaxInt, math.MaxInt), geom.Box{}, api.ErrOverflow},
		{"the first ints", matrix{}, box(math.MinInt, math.MinInt, math.MinInt+1, math.MinInt+1), geom.Box{}, api.ErrOverflow},
		{"to the end of room", affine.Move(1, 1), box(0, 0, far, far), box(1, 1, far+1, far+1), api.OK},
		{"past X", affine.Move(1, 0), box(0, 0, far+1, 1), geom.Box{}, api.ErrOverflow},
		{"past Y", affine.Move(0, -1), box(0, -far, 1, 1), geom.Box{}, api.ErrOverflow},
		// Just one corner, which is neither of the two that the box is made of.
		{"past X up right", matrix{A: 65536, C: -65536}, box(0, 0, far+1, 2), box(-1, 0, far+1, 1), api.OK},
		{"past X up right by one", matrix{A: 65536, C: -65536, E: 1}, box(0, 0, far+1, 2), geom.Box{}, api.ErrOverflow},
		{"past X down left", matrix{A: 65536, C: -65536}, box(1, 0, 5, far+2), geom.Box{}, api.ErrOverflow},
		{"past X down left by one", matrix{A: 65536, C: -65536}, box(0, 1, 5, far+1), box(-far, 0, 4, 1), api.OK},
		{"past X down left, moved", matrix{A: 65536, C: -65536, E: -1}, box(0, 1, 5, far+1), geom.Box{}, api.ErrOverflow},
	} {
		if got, e := c.m.Bound(c.b); got != c.want || e != c.e {
			t.Errorf("%s: %v.Bound(%v): %v, %d; want %v, %d", c.name, c.m, c.b, got, e, c.want, c.e)
		}
	}
}

// P4.4: what is made of each point of a small box lies in its bound, and each side of the bound has one.
func TestBoundHasAllPoints(t *testing.T) {
	next := stepper()
	for i := range 3000 {
		m := anyMatrix(next, 16+i%4, 8)
		x, y := next(6), next(6)
		b := box(x, y, x+1+i%7, y+1+i/7%7)
		var made []geom.Point
		for px := b.X0; px < b.X1; px++ {
			for py := b.Y0; py < b.Y1; py++ {
				q, e := m.Apply(at(px, py))
				if e != api.OK {
					t.Fatalf("%v.Apply(%d, %d): %d", m, px, py, e)
				}
				made = append(made, q)
			}
		}
		if got, e := m.Bound(b); got != geom.Bound(made...) || e != api.OK {
			t.Errorf("%v.Bound(%v): %v, %d; want %v", m, b, got, e, geom.Bound(made...))
		}
	}
}

// P4.4: matrices and boxes of all sizes, empty ones too, and those about the ends of what is right, against exact numbers.
func TestBound(t *testing.T) {
	next := stepper()
	for i := range 40000 {
		entry, coord := 1+i%26, 1+i/26%33
		b := box(next(coord), next(coord), next(coord), next(coord))
		checkBound(t, anyMatrix(next, entry, coord), b)
		checkBound(t, anyMatrix(next, 17, 30), b)
		checkBound(t, anyMatrix(next, 17, 30), box(min(b.X0, b.X1), min(b.Y0, b.Y1), max(b.X0, b.X1), max(b.Y0, b.Y1)))
	}
	for _, m := range nearRight() {
		checkBound(t, m, geom.Box{})
		checkBound(t, m, box(-1, -1, 2, 2))
		checkBound(t, m, box(-far/256, 0, far/256, 1))
	}
	for d := -2; d <= 3; d++ {
		for n := range 4 {
			checkBound(t, affine.Quarter(n), box(0, 0, far+d, 1))
			checkBound(t, affine.Quarter(n), box(0, 0, 1, far+d))
			checkBound(t, affine.Quarter(n), box(-far-d, 0, 0, 1))
			checkBound(t, affine.Quarter(n), box(0, -far-d, 1, 0))
		}
	}
}

// value is a number by the words of layer 2: Hi times 2^64, and Lo.
func value(x wide.Num) *big.Int {
	v := new(big.Int).Lsh(big.NewInt(x.Hi), 64)
	return v.Add(v, new(big.Int).SetUint64(x.Lo))
}

// P4.4: Det of chosen matrices, and of those of all sizes against exact numbers.
func TestDet(t *testing.T) {
	for _, c := range []struct {
		m    matrix
		want int
	}{
		{matrix{}, 0},
		{affine.One(), 1 << 32},
		{affine.Move(far, -far), 1 << 32},
		{affine.Quarter(1), 1 << 32},
		{affine.Quarter(2), 1 << 32},
		{affine.Quarter(3), 1 << 32},
		{affine.Scale(-unit, unit), -1 << 32},
		{matrix{A: 2, B: 3, C: 5, D: 7, E: 11, F: 13}, 14 - 15},
		{matrix{A: 7, B: 5, C: 3, D: 2}, 14 - 15},
		{matrix{A: 2, B: 3, C: -5, D: 7}, 14 + 15},
		{matrix{A: most, B: most, C: most, D: most}, 0},
		{matrix{A: most, B: most, C: -most, D: most}, 1 << 49},
		{matrix{A: most, B: most, C: most, D: -most}, -1 << 49},
		{matrix{A: most, B: most - 1, C: most, D: most}, most},
	} {
		if got := c.m.Det(); got != wide.Of(c.want) {
			t.Errorf("%v.Det: %v; want %d", c.m, got, c.want)
		}
	}
	next := stepper()
	for i := range 20000 {
		m := anyMatrix(next, 1+i%25, 32)
		if got, want := value(m.Det()), sum(m.A, m.D, -m.B, m.C); got.Cmp(want) != 0 {
			t.Errorf("%v.Det: %s; want %s", m, got, want)
		}
	}
}

// P1: matrices, points and boxes of any ints: each call ends, none panics, and what is refused is zero.
func TestWild(t *testing.T) {
	l := []int{0, 1, -1, most + 1, far, far + 1, -far - 1, math.MaxInt, math.MinInt, math.MaxInt - 1, math.MinInt + 1}
	next := stepper()
	pick := func() int { return l[uint(next(32))%uint(len(l))] }
	for range 40000 {
		m := matrix{pick(), pick(), pick(), pick(), pick(), pick()}
		o := matrix{pick(), pick(), pick(), pick(), pick(), pick()}
		checkRight(t, m)
		checkApply(t, m, at(pick(), pick()))
		checkThen(t, m, o)
		checkBound(t, m, box(pick(), pick(), pick(), pick()))
		m.Det()
	}
	for range 40000 {
		checkApply(t, anyMatrix(next, 64, 64), at(next(64), next(64)))
		checkThen(t, affine.Quarter(next(64)), anyMatrix(next, 64, 64))
	}
}
