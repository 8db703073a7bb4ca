package curve_test

import (
	"math"
	"math/big"
	"slices"
	"testing"

	"limner/api"
	"limner/curve"
	"limner/geom"
)

// far is the last number in room.
const far = api.MaxCoord

type points = []geom.Point

func at(x, y int) geom.Point { return geom.Point{X: x, Y: y} }

func box(x0, y0, x1, y1 int) geom.Box { return geom.Box{X0: x0, Y0: y0, X1: x1, Y1: y1} }

// stepper tells numbers that look like chance, the same in every run: from -2^(bits-1) up to 2^(bits-1) - 1.
func stepper() func(bits int) int {
	state := uint64(0x9e3779b97f4a7c15)
	return func(bits int) int {
		state ^= state << 13
		state ^= state >> 7
		state ^= state << 17
		return int(int64(state) >> (64 - bits))
	}
}

// anyCurve has three or four points whose numbers have so many bits.
func anyCurve(next func(bits int) int, bits int) points {
	l := make(points, 3+next(8)&1)
	for i := range l {
		l[i] = at(next(bits), next(bits))
	}
	return l
}

// half is the half of a + b, rounded down, by exact numbers.
func half(a, b int) int {
	n := new(big.Int).Add(big.NewInt(int64(a)), big.NewInt(int64(b)))
	// Div rounds down, as what it divides by is above 0.
	return int(n.Div(n, big.NewInt(2)).Int64())
}

// wantHalves goes row by row, as the document's words do.
func wantHalves(l points) (a, b points) {
	for {
		a = append(a, l[0])
		b = append(points{l[len(l)-1]}, b...)
		if len(l) == 1 {
			return a, b
		}
		var middles points
		for i := 1; i < len(l); i++ {
			middles = append(middles, at(half(l[i-1].X, l[i].X), half(l[i-1].Y, l[i].Y)))
		}
		l = middles
	}
}

func wantFlat(l points, depth int) points {
	if depth == 0 {
		return points{l[len(l)-1]}
	}
	a, b := wantHalves(l)
	return append(wantFlat(a, depth-1), wantFlat(b, depth-1)...)
}

func checkHalves(t *testing.T, l, wantA, wantB points) {
	t.Helper()
	a, b, e := curve.Halves(l)
	if e != api.OK || !slices.Equal(a, wantA) || !slices.Equal(b, wantB) {
		t.Errorf("Halves(%v): %v, %v, %d; not %v, %v", l, a, b, e, wantA, wantB)
	}
}

func checkFlat(t *testing.T, l points, depth int, want points) {
	t.Helper()
	if p, e := curve.Flat(l, depth); e != api.OK || !slices.Equal(p, want) {
		t.Errorf("Flat(%v, %d): %v, %d; not %v", l, depth, p, e, want)
	}
}

// refused says that neither Halves nor Flat takes l, of which they tell nothing.
func refused(t *testing.T, l points) {
	t.Helper()
	if a, b, e := curve.Halves(l); e != api.ErrRange || len(a) != 0 || len(b) != 0 {
		t.Errorf("Halves(%v): %v, %v, %d", l, a, b, e)
	}
	for _, depth := range []int{-1, 0, 3, 6, 7} {
		if p, e := curve.Flat(l, depth); e != api.ErrRange || len(p) != 0 {
			t.Errorf("Flat(%v, %d): %v, %d", l, depth, p, e)
		}
	}
}

// P5.1: the middle is the half of each sum, rounded down, below 0 too.
func TestMid(t *testing.T) {
	for _, c := range []struct{ p, q, want geom.Point }{
		{at(0, 0), at(0, 0), at(0, 0)},
		{at(0, 0), at(4, 8), at(2, 4)},
		{at(4, 8), at(0, 0), at(2, 4)},
		{at(0, 0), at(1, 3), at(0, 1)},
		{at(0, 0), at(-1, -3), at(-1, -2)},
		{at(-1, 3), at(0, 4), at(-1, 3)},
		{at(-3, 5), at(-4, -6), at(-4, -1)},
		{at(7, -7), at(7, -7), at(7, -7)},
		{at(far, far), at(far, far), at(far, far)},
		{at(-far, -far), at(-far, -far), at(-far, -far)},
		{at(far, -far), at(-far, far), at(0, 0)},
		{at(far, -far), at(far-1, -far+1), at(far-1, -far)},
	} {
		if got := curve.Mid(c.p, c.q); got != c.want {
			t.Errorf("Mid(%v, %v): %v, not %v", c.p, c.q, got, c.want)
		}
	}
	next := stepper()
	for range 20000 {
		p, q := at(next(32), next(5)), at(next(20), next(32))
		if got, want := curve.Mid(p, q), at(half(p.X, q.X), half(p.Y, q.Y)); got != want {
			t.Fatalf("Mid(%v, %v): %v, not %v", p, q, got, want)
		}
	}
}

// P5.1: both halves, worked out by hand.
func TestHalvesByHand(t *testing.T) {
	for _, c := range []struct{ l, a, b points }{
		{points{at(0, 0), at(4, 8), at(8, 0)}, points{at(0, 0), at(2, 4), at(4, 4)}, points{at(4, 4), at(6, 4), at(8, 0)}},
		{points{at(0, 0), at(0, 8), at(8, 8), at(8, 0)}, points{at(0, 0), at(0, 4), at(2, 6), at(4, 6)}, points{at(4, 6), at(6, 6), at(8, 4), at(8, 0)}},
		{points{at(5, -5), at(5, -5), at(5, -5)}, points{at(5, -5), at(5, -5), at(5, -5)}, points{at(5, -5), at(5, -5), at(5, -5)}},
		// What is rounded down is rounded anew in each row: of (0,0) (1,0) (1,1) the point is (0,0), not the nearest to (3/4, 1/4).
		{points{at(0, 0), at(1, 0), at(1, 1)}, points{at(0, 0), at(0, 0), at(0, 0)}, points{at(0, 0), at(1, 0), at(1, 1)}},
		{points{at(-1, 0), at(0, 0), at(0, -1), at(-1, -1)}, points{at(-1, 0), at(-1, 0), at(-1, -1), at(-1, -1)}, points{at(-1, -1), at(-1, -1), at(-1, -1), at(-1, -1)}},
		{points{at(far, -far), at(far, -far), at(-far, far)}, points{at(far, -far), at(far, -far), at(far/2, -far/2)}, points{at(far/2, -far/2), at(0, 0), at(-far, far)}},
	} {
		checkHalves(t, c.l, c.a, c.b)
	}
}

// P5.1: both halves, by exact numbers, and about the ends of what is in room.
func TestHalvesExactly(t *testing.T) {
	next := stepper()
	for i := range 20000 {
		l := anyCurve(next, 4+i%29)
		if i%3 == 0 {
			l[i%len(l)] = at(far, -far)
		}
		a, b := wantHalves(l)
		checkHalves(t, l, a, b)
	}
}

// P5.1, P5.2: without three or four points, all of them in room, there is no curve.
func TestNoCurve(t *testing.T) {
	for n := range 10 {
		if n != 3 && n != 4 {
			refused(t, make(points, n))
		}
	}
	refused(t, nil)
	refused(t, make(points, 65536))
	for n := 3; n <= 4; n++ {
		for i := range n {
			for _, out := range []int{far + 1, -far - 1, math.MaxInt, math.MinInt} {
				l := make(points, n)
				l[i].X = out
				refused(t, l)
				l[i] = at(0, out)
				refused(t, l)
			}
			l := make(points, n)
			l[i] = at(far, -far)
			if _, _, e := curve.Halves(l); e != api.OK {
				t.Errorf("Halves(%v): %d", l, e)
			}
			if _, e := curve.Flat(l, 6); e != api.OK {
				t.Errorf("Flat(%v, 6): %d", l, e)
			}
		}
	}
}

// P5.2: the points of a curve, worked out by hand.
func TestFlatByHand(t *testing.T) {
	l := points{at(0, 0), at(4, 8), at(8, 0)}
	checkFlat(t, l, 0, points{at(8, 0)})
	checkFlat(t, l, 1, points{at(4, 4), at(8, 0)})
	checkFlat(t, l, 2, points{at(2, 3), at(4, 4), at(6, 3), at(8, 0)})
	c := points{at(0, 0), at(0, 8), at(8, 8), at(8, 0)}
	checkFlat(t, c, 0, points{at(8, 0)})
	checkFlat(t, c, 1, points{at(4, 6), at(8, 0)})
	// The first half is (0,0) (0,4) (2,6) (4,6), the second (4,6) (6,6) (8,4) (8,0).
	checkFlat(t, c, 2, points{at(1, 4), at(4, 6), at(6, 4), at(8, 0)})
}

// P5.2: the points of a curve are those of its halves, at every depth that there is.
func TestFlatExactly(t *testing.T) {
	next := stepper()
	for i := range 3000 {
		l := anyCurve(next, 4+i%29)
		depth := i % 7
		want := wantFlat(l, depth)
		if len(want) != 1<<depth {
			t.Fatalf("%d points at depth %d", len(want), depth)
		}
		checkFlat(t, l, depth, want)
	}
}

// P5.2: of a depth below 0 or above 6 there is nothing.
func TestFlatDepth(t *testing.T) {
	for _, l := range []points{{at(0, 0), at(4, 8), at(8, 0)}, {at(0, 0), at(0, 8), at(8, 8), at(8, 0)}} {
		for _, depth := range []int{-1, 7, -2, 8, 62, 63, 64, 256, math.MinInt, math.MaxInt} {
			if p, e := curve.Flat(l, depth); e != api.ErrRange || len(p) != 0 {
				t.Errorf("Flat(%v, %d): %v, %d", l, depth, p, e)
			}
		}
	}
}

// P5.3: the bound is layer 3's, of as many points as there are.
func TestBound(t *testing.T) {
	for _, c := range []struct {
		l    points
		want geom.Box
	}{
		{nil, box(0, 0, 0, 0)},
		{points{at(3, -4)}, box(3, -4, 4, -3)},
		{points{at(0, 0), at(4, 8), at(8, 0)}, box(0, 0, 9, 9)},
		{points{at(0, 0), at(0, 8), at(8, 8), at(8, 0)}, box(0, 0, 9, 9)},
		{points{at(1, 2), at(-5, 9), at(7, -3)}, box(-5, -3, 8, 10)},
		{points{at(1, 2), at(1, 2), at(1, 2), at(1, 50)}, box(1, 2, 2, 51)},
		{points{at(far, far), at(0, 0), at(-far, -far)}, box(-far, -far, far+1, far+1)},
	} {
		if got := curve.Bound(c.l); got != c.want {
			t.Errorf("Bound(%v): %v, not %v", c.l, got, c.want)
		}
	}
}

// P5.3: each point of Flat lies in the bound.
func TestBoundHasFlat(t *testing.T) {
	next := stepper()
	for i := range 3000 {
		l := anyCurve(next, 2+i%31)
		b := curve.Bound(l)
		if want := geom.Bound(l...); b != want {
			t.Fatalf("Bound(%v): %v, not %v", l, b, want)
		}
		p, _ := curve.Flat(l, i%7)
		for _, q := range p {
			if !b.Has(q) {
				t.Fatalf("%v of Flat(%v, %d) lies outside of %v", q, l, i%7, b)
			}
		}
	}
}

// P5.4: what is handed in isn't changed, its spare room neither.
func TestHandedInStays(t *testing.T) {
	for n := 3; n <= 4; n++ {
		all := make(points, 9)
		for i := range all {
			all[i] = at(i*i, 100-7*i)
		}
		was := slices.Clone(all)
		curve.Halves(all[:n])
		curve.Flat(all[:n], 6)
		curve.Bound(all[:n])
		if !slices.Equal(all, was) {
			t.Errorf("of %d points %v became %v", n, was, all)
		}
	}
}

// whole is l with its spare room.
func whole(l points) points { return l[:cap(l)] }

// P5.4: what is told shares no memory with what was handed in, nor with anything else that is told; nothing is kept.
func TestToldIsNew(t *testing.T) {
	for n := 3; n <= 4; n++ {
		l := make(points, n, 16)
		for i := range l {
			l[i] = at(i*i, 100-7*i)
		}
		a, b, _ := curve.Halves(l)
		c, d, _ := curve.Halves(l)
		f, _ := curve.Flat(l, 3)
		g, _ := curve.Flat(l, 3)
		h, _ := curve.Flat(l, 0)
		lists := []points{l, a, b, c, d, f, g, h}
		for i, p := range lists {
			for j := range whole(p) {
				whole(p)[j] = at(i, i)
			}
		}
		for i, p := range lists {
			for _, q := range whole(p) {
				if q != at(i, i) {
					t.Fatalf("list %d shares memory with another", i)
				}
			}
		}
	}
}

// P5.4: what was told stays as it was, when what was handed in is changed.
func TestNothingKept(t *testing.T) {
	l := points{at(0, 0), at(4, 8), at(8, 0)}
	a, b, _ := curve.Halves(l)
	f, _ := curve.Flat(l, 1)
	h, _ := curve.Flat(l, 0)
	for i := range l {
		l[i] = at(-1, -1)
	}
	if !slices.Equal(a, points{at(0, 0), at(2, 4), at(4, 4)}) || !slices.Equal(b, points{at(4, 4), at(6, 4), at(8, 0)}) {
		t.Errorf("Halves: %v, %v", a, b)
	}
	if !slices.Equal(f, points{at(4, 4), at(8, 0)}) || !slices.Equal(h, points{at(8, 0)}) {
		t.Errorf("Flat: %v, %v", f, h)
	}
}

// P1: no call panics, and each ends, whatever the numbers.
func TestWild(t *testing.T) {
	next := stepper()
	ends := []int{math.MinInt, math.MaxInt, -far - 1, far + 1, -far, far, 0}
	wild := func() int {
		if n := next(4); n >= 0 && n < len(ends) {
			return ends[n]
		}
		return next(64)
	}
	for range 3000 {
		l := make(points, next(4)&7)
		for i := range l {
			l[i] = at(wild(), wild())
		}
		if len(l) > 1 {
			curve.Mid(l[0], l[1])
		}
		curve.Halves(l)
		curve.Flat(l, wild())
		curve.Flat(l, next(5))
		curve.Bound(l)
	}
}
