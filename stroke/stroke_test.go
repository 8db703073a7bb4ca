package stroke_test

import (
	"math"
	"math/big"
	"slices"
	"testing"

	"limner/api"
	"limner/geom"
	"limner/path"
	"limner/stroke"
)

const (
	// far is the last number in room.
	far = api.MaxCoord

	// wide is the greatest half width of a pen, long how far a line goes at most each way.
	wide = 1 << 15
	long = 1 << 29

	least, most = math.MinInt, math.MaxInt
)

type (
	points = []geom.Point
	polys  = [][]geom.Point
)

func at(x, y int) geom.Point { return geom.Point{X: x, Y: y} }

func box(x0, y0, x1, y1 int) geom.Box { return geom.Box{X0: x0, Y0: y0, X1: x1, Y1: y1} }

func open(l ...geom.Point) path.Sub { return path.Sub{L: l} }

func closed(l ...geom.Point) path.Sub { return path.Sub{L: l, Closed: true} }

// stepper tells numbers that look like chance, the same in every run: from -2^(bits-1) up to 2^(bits-1) - 1.
func stepper() func(bits int) int {
	state := uint64(0x9e3779b97f4a7c15)
	return func(bits int) int {
		state ^= state << 13
		state ^= state >> 7
		state ^= state << 17
		return int(int64(state) >> (64 - bits))
	}
}

// from0 tells such a number from 0 up to n - 1.
func from0(next func(bits int) int, n int) int { return (next(32) & math.MaxUint32) % n }

func samePolys(a, b polys) bool {
	return slices.EqualFunc(a, b, func(p, q points) bool { return slices.Equal(p, q) })
}

func out(n int) bool { return n < -far || n > far }

func anyOut(l points) bool {
	return slices.ContainsFunc(l, func(p geom.Point) bool { return out(p.X) || out(p.Y) })
}

// rounded tells n by d, d above 0: what is left of the quotient below its whole part says which whole number is nearest.
func rounded(n, d *big.Int) int {
	whole, rest := new(big.Int).DivMod(n, d, new(big.Int))
	if rest.Lsh(rest, 1).Cmp(d) >= 0 {
		whole.Add(whole, big.NewInt(1))
	}
	return int(whole.Int64())
}

// wantSteps tells the side step and the step ahead by the document's words, in exact numbers.
func wantSteps(a, b geom.Point, h int) (n, s geom.Point) {
	dx, dy := big.NewInt(int64(b.X-a.X)), big.NewInt(int64(b.Y-a.Y))
	sum := new(big.Int).Mul(dx, dx)
	sum.Add(sum, new(big.Int).Mul(dy, dy))
	length := sum.Sqrt(sum)
	part := func(d *big.Int, h int) int {
		return rounded(new(big.Int).Mul(d, big.NewInt(int64(h))), length)
	}
	return at(part(dy, -h), part(dx, h)), at(part(dx, h), part(dy, h))
}

func badPen(h int) bool { return h < 1 || h > 32768 }

func tooLong(n int) bool { return n < -536870912 || n > 536870912 }

func wantBar(a, b geom.Point, h int) (points, api.Errno) {
	if badPen(h) || anyOut(points{a, b}) || a.X == b.X && a.Y == b.Y {
		return nil, api.ErrRange
	}
	if tooLong(b.X-a.X) || tooLong(b.Y-a.Y) {
		return nil, api.ErrOverflow
	}
	n, _ := wantSteps(a, b, h)
	l := points{at(a.X-n.X, a.Y-n.Y), at(b.X-n.X, b.Y-n.Y), at(b.X+n.X, b.Y+n.Y), at(a.X+n.X, a.Y+n.Y)}
	if anyOut(l) {
		return nil, api.ErrOverflow
	}
	return l, api.OK
}

// The sixteen cosines, written out.
var wantCosines = []int{
	65536, 60547, 46341, 25080, 0, -25080, -46341, -60547,
	-65536, -60547, -46341, -25080, 0, 25080, 46341, 60547,
}

func wantDisc(c geom.Point, h int) (points, api.Errno) {
	if badPen(h) || anyOut(points{c}) {
		return nil, api.ErrRange
	}
	part := func(k int) int {
		return rounded(big.NewInt(int64(wantCosines[k%16]*h)), big.NewInt(65536))
	}
	var l points
	for k := range 16 {
		l = append(l, at(c.X+part(k), c.Y+part(k+12)))
	}
	if anyOut(l) {
		return nil, api.ErrOverflow
	}
	return l, api.OK
}

// wantCaps tells the square caps of the points l, each as the document writes it.
func wantCaps(l points, h int) polys {
	a, b := l[0], l[1]
	n, s := wantSteps(a, b, h)
	first := points{
		at(a.X-n.X-s.X, a.Y-n.Y-s.Y), at(a.X-n.X, a.Y-n.Y),
		at(a.X+n.X, a.Y+n.Y), at(a.X+n.X-s.X, a.Y+n.Y-s.Y),
	}
	a, b = l[len(l)-2], l[len(l)-1]
	n, s = wantSteps(a, b, h)
	last := points{
		at(b.X-n.X, b.Y-n.Y), at(b.X-n.X+s.X, b.Y-n.Y+s.Y),
		at(b.X+n.X+s.X, b.Y+n.Y+s.Y), at(b.X+n.X, b.Y+n.Y),
	}
	return polys{first, last}
}

// wantDot tells what a pen leaves of one point.
func wantDot(c geom.Point, h, cap int) (polys, api.Errno) {
	var l points
	switch cap {
	case 0:
		return nil, api.OK
	case 1:
		l, _ = wantDisc(c, h)
	case 2:
		l = points{at(c.X-h, c.Y-h), at(c.X+h, c.Y-h), at(c.X+h, c.Y+h), at(c.X-h, c.Y+h)}
	}
	if len(l) == 0 || anyOut(l) {
		return nil, api.ErrOverflow
	}
	return polys{l}, api.OK
}

func wantStroke(s path.Sub, h, cap int) (polys, api.Errno) {
	if badPen(h) || cap != 0 && cap != 1 && cap != 2 || anyOut(s.L) {
		return nil, api.ErrRange
	}
	var l points
	for i, p := range s.L {
		if i == 0 || p != s.L[i-1] {
			l = append(l, p)
		}
	}
	for s.Closed && len(l) > 1 && l[len(l)-1] == l[0] {
		l = l[:len(l)-1]
	}
	if len(l) == 0 {
		return nil, api.OK
	}
	if len(l) == 1 {
		return wantDot(l[0], h, cap)
	}
	var told polys
	for i := range l {
		if i == len(l)-1 && !s.Closed {
			break
		}
		p, e := wantBar(l[i], l[(i+1)%len(l)], h)
		if e != api.OK {
			return nil, e
		}
		told = append(told, p)
	}
	round := func(c geom.Point) api.Errno {
		p, e := wantDisc(c, h)
		told = append(told, p)
		return e
	}
	for i, c := range l {
		if !s.Closed && (i == 0 || i == len(l)-1) {
			continue
		}
		if e := round(c); e != api.OK {
			return nil, e
		}
	}
	if s.Closed || cap == 0 {
		return told, api.OK
	}
	if cap == 1 {
		e, f := round(l[0]), round(l[len(l)-1])
		if e != api.OK || f != api.OK {
			return nil, api.ErrOverflow
		}
		return told, api.OK
	}
	caps := wantCaps(l, h)
	if anyOut(caps[0]) || anyOut(caps[1]) {
		return nil, api.ErrOverflow
	}
	return append(told, caps...), api.OK
}

func checkBar(t *testing.T, a, b geom.Point, h int, want points, wantE api.Errno) {
	t.Helper()
	if got, e := stroke.Bar(a, b, h); e != wantE || !slices.Equal(got, want) {
		t.Errorf("Bar(%v, %v, %d): %v, %d; not %v, %d", a, b, h, got, e, want, wantE)
	}
}

func checkDisc(t *testing.T, c geom.Point, h int, want points, wantE api.Errno) {
	t.Helper()
	if got, e := stroke.Disc(c, h); e != wantE || !slices.Equal(got, want) {
		t.Errorf("Disc(%v, %d): %v, %d; not %v, %d", c, h, got, e, want, wantE)
	}
}

func checkStroke(t *testing.T, s path.Sub, h, cap int, want polys, wantE api.Errno) {
	t.Helper()
	if got, e := stroke.Stroke(s, h, cap); e != wantE || !samePolys(got, want) {
		t.Errorf("Stroke(%v, %d, %d): %v, %d; not %v, %d", s, h, cap, got, e, want, wantE)
	}
}

// P7.1: bars, worked out by hand.
func TestBar(t *testing.T) {
	checks := []struct {
		a, b geom.Point
		h    int
		want points
	}{
		{at(0, 0), at(10, 0), 2, points{at(0, -2), at(10, -2), at(10, 2), at(0, 2)}},
		{at(10, 0), at(0, 0), 2, points{at(10, 2), at(0, 2), at(0, -2), at(10, -2)}},
		{at(0, 0), at(0, 10), 2, points{at(2, 0), at(2, 10), at(-2, 10), at(-2, 0)}},
		{at(0, 10), at(0, 0), 2, points{at(-2, 10), at(-2, 0), at(2, 0), at(2, 10)}},
		{at(0, 0), at(30, 40), 5, points{at(4, -3), at(34, 37), at(26, 43), at(-4, 3)}},
		{at(7, -7), at(37, 33), 5, points{at(11, -10), at(41, 30), at(33, 36), at(3, -4)}},
		// The length of (1,1) is 1: the root is rounded down.
		{at(0, 0), at(1, 1), 3, points{at(3, -3), at(4, -2), at(-2, 4), at(-3, 3)}},
		// Of (3,4) a half width of 1 makes -0.8 and 0.6.
		{at(0, 0), at(3, 4), 1, points{at(1, -1), at(4, 3), at(2, 5), at(-1, 1)}},
		// The length of (3,8) is 8: a half width of 4 makes -4 and 1.5, which is 2.
		{at(0, 0), at(3, 8), 4, points{at(4, -2), at(7, 6), at(-1, 10), at(-4, 2)}},
		// And of (8,3) -1.5, which is -1, and 4.
		{at(0, 0), at(8, 3), 4, points{at(1, -4), at(9, -1), at(7, 7), at(-1, 4)}},
		// And of (8,-3) 1.5, which is 2, and 4.
		{at(0, 0), at(8, -3), 4, points{at(-2, -4), at(6, -7), at(10, 1), at(2, 4)}},
		// A line that hardly rises: 2/100 of 20 is nothing yet.
		{at(0, 0), at(100, 2), 20, points{at(0, -20), at(100, -18), at(100, 22), at(0, 20)}},
		{at(0, 0), at(100, 3), 20, points{at(1, -20), at(101, -17), at(99, 23), at(-1, 20)}},
		{at(0, 0), at(1, 0), 1, points{at(0, -1), at(1, -1), at(1, 1), at(0, 1)}},
		{at(0, 0), at(1, 0), wide, points{at(0, -wide), at(1, -wide), at(1, wide), at(0, wide)}},
	}
	for _, c := range checks {
		checkBar(t, c.a, c.b, c.h, c.want, api.OK)
	}
}

// P7.1: bars as the document's words have them.
func TestBarByWords(t *testing.T) {
	next := stepper()
	for i := range 40000 {
		bits := 2 + i%33
		a, b := at(next(bits), next(bits)), at(next(bits), next(bits))
		if i%3 == 0 {
			b = at(a.X+next(2+i%7), a.Y+next(2+i%5))
		}
		h := 1 + from0(next, 1<<(i%16))
		want, e := wantBar(a, b, h)
		checkBar(t, a, b, h, want, e)
	}
}

// P7.1: every small line, so that each kind of half is met.
func TestBarSmall(t *testing.T) {
	for dx := -12; dx <= 12; dx++ {
		for dy := -12; dy <= 12; dy++ {
			for h := 1; h <= 12; h++ {
				want, e := wantBar(at(5, -3), at(5+dx, -3+dy), h)
				checkBar(t, at(5, -3), at(5+dx, -3+dy), h, want, e)
			}
		}
	}
}

// P7.1: bars that are as long as they may be, and that end with the room.
func TestBarAtEnds(t *testing.T) {
	good := []struct {
		a, b geom.Point
		h    int
		want points
	}{
		{at(0, 0), at(long, 0), 1, points{at(0, -1), at(long, -1), at(long, 1), at(0, 1)}},
		{at(0, 0), at(-long, 0), 1, points{at(0, 1), at(-long, 1), at(-long, -1), at(0, -1)}},
		{at(0, 0), at(0, long), 1, points{at(1, 0), at(1, long), at(-1, long), at(-1, 0)}},
		{at(0, 0), at(0, -long), 1, points{at(-1, 0), at(-1, -long), at(1, -long), at(1, 0)}},
		// The length is 759250124, the root of 2^59: 32768 times 2^29 by it is 23170.5 (a little less).
		{at(0, 0), at(long, long), wide, points{at(23170, -23170), at(long+23170, long-23170), at(long-23170, long+23170), at(-23170, 23170)}},
		{at(0, far-2), at(9, far-2), 2, points{at(0, far-4), at(9, far-4), at(9, far), at(0, far)}},
		{at(0, 2-far), at(9, 2-far), 2, points{at(0, -far), at(9, -far), at(9, 4-far), at(0, 4-far)}},
		{at(far-2, 0), at(far-2, 9), 2, points{at(far, 0), at(far, 9), at(far-4, 9), at(far-4, 0)}},
		{at(2-far, 0), at(2-far, 9), 2, points{at(4-far, 0), at(4-far, 9), at(-far, 9), at(-far, 0)}},
		{at(far-1, 0), at(far, 0), 3, points{at(far-1, -3), at(far, -3), at(far, 3), at(far-1, 3)}},
	}
	for _, c := range good {
		checkBar(t, c.a, c.b, c.h, c.want, api.OK)
	}
	bad := []struct {
		a, b geom.Point
		h    int
	}{
		{at(0, 0), at(long+1, 0), 1}, {at(0, 0), at(-long-1, 0), 1},
		{at(0, 0), at(0, long+1), 1}, {at(0, 0), at(0, -long-1), 1},
		{at(long, 5), at(-1, 5), 1}, {at(-far, -far), at(far, far), 1},
		{at(far, -far), at(-far, far), wide}, {at(-far, 0), at(far, 0), 1},
		{at(0, -far), at(0, far), 1},
		{at(0, far-2), at(9, far-2), 3}, {at(0, 2-far), at(9, 2-far), 3},
		{at(far-2, 0), at(far-2, 9), 3}, {at(2-far, 0), at(2-far, 9), 3},
		// One corner alone is out of room.
		{at(0, far), at(1, far-1), 1}, {at(0, far-1), at(1, far), 1},
		{at(0, -far), at(1, 1-far), 1}, {at(0, 1-far), at(1, -far), 1},
		{at(far, 0), at(far-1, 1), 1}, {at(far-1, 0), at(far, 1), 1},
		{at(-far, 0), at(1-far, 1), 1}, {at(1-far, 0), at(-far, 1), 1},
	}
	for _, c := range bad {
		checkBar(t, c.a, c.b, c.h, nil, api.ErrOverflow)
	}
}

// P7.1: no pens, points out of room, and one point twice; also where the line is too long or leaves room.
func TestNoBar(t *testing.T) {
	for _, h := range []int{0, -1, wide + 1, least, most, -wide} {
		checkBar(t, at(0, 0), at(1, 0), h, nil, api.ErrRange)
		checkBar(t, at(-far, 0), at(far, 0), h, nil, api.ErrRange)
		checkBar(t, at(0, far), at(1, far), h, nil, api.ErrRange)
	}
	for _, n := range []int{far + 1, -far - 1, 1 << 32, least, most} {
		checkBar(t, at(n, 0), at(0, 0), 1, nil, api.ErrRange)
		checkBar(t, at(0, n), at(0, 0), 1, nil, api.ErrRange)
		checkBar(t, at(0, 0), at(n, 0), 1, nil, api.ErrRange)
		checkBar(t, at(0, 0), at(0, n), 1, nil, api.ErrRange)
		checkBar(t, at(n, n), at(n-1, n-1), 1, nil, api.ErrRange)
	}
	for _, p := range []geom.Point{at(0, 0), at(3, -4), at(far, far), at(-far, 0)} {
		checkBar(t, p, p, 1, nil, api.ErrRange)
	}
}

// P7.1: discs, worked out by hand.
func TestDisc(t *testing.T) {
	checkDisc(t, at(0, 0), 16, points{
		at(16, 0), at(15, 6), at(11, 11), at(6, 15), at(0, 16), at(-6, 15), at(-11, 11), at(-15, 6),
		at(-16, 0), at(-15, -6), at(-11, -11), at(-6, -15), at(0, -16), at(6, -15), at(11, -11), at(15, -6),
	}, api.OK)
	checkDisc(t, at(100, -100), 1, points{
		at(101, -100), at(101, -100), at(101, -99), at(100, -99), at(100, -99), at(100, -99), at(99, -99), at(99, -100),
		at(99, -100), at(99, -100), at(99, -101), at(100, -101), at(100, -101), at(100, -101), at(101, -101), at(101, -100),
	}, api.OK)
	// The halves of 2^15: 30273.5, 23170.5 and 12540.
	checkDisc(t, at(0, 0), wide, points{
		at(32768, 0), at(30274, 12540), at(23171, 23171), at(12540, 30274),
		at(0, 32768), at(-12540, 30274), at(-23170, 23171), at(-30273, 12540),
		at(-32768, 0), at(-30273, -12540), at(-23170, -23170), at(-12540, -30273),
		at(0, -32768), at(12540, -30273), at(23171, -23170), at(30274, -12540),
	}, api.OK)
}

// P7.1: the disc of every pen.
func TestDiscByWords(t *testing.T) {
	next := stepper()
	for h := 1; h <= wide; h++ {
		c := at(next(20), next(31))
		want, e := wantDisc(c, h)
		checkDisc(t, c, h, want, e)
	}
}

// P7.1: discs that end with the room.
func TestDiscAtEnds(t *testing.T) {
	for _, h := range []int{1, 2, 100, wide} {
		for _, c := range []geom.Point{at(far-h, 0), at(h-far, 0), at(0, far-h), at(0, h-far), at(far-h, h-far)} {
			want, e := wantDisc(c, h)
			if e != api.OK {
				t.Errorf("disc %v, %d of the test: %d", c, h, e)
			}
			checkDisc(t, c, h, want, api.OK)
		}
		for _, c := range []geom.Point{at(far-h+1, 0), at(h-far-1, 0), at(0, far-h+1), at(0, h-far-1), at(far, far), at(-far, 0)} {
			checkDisc(t, c, h, nil, api.ErrOverflow)
		}
	}
}

// P7.1: no pens, and points out of room; also where the disc leaves room.
func TestNoDisc(t *testing.T) {
	for _, h := range []int{0, -1, wide + 1, least, most} {
		checkDisc(t, at(0, 0), h, nil, api.ErrRange)
		checkDisc(t, at(far, far), h, nil, api.ErrRange)
	}
	for _, n := range []int{far + 1, -far - 1, least, most} {
		checkDisc(t, at(n, 0), 1, nil, api.ErrRange)
		checkDisc(t, at(0, n), 1, nil, api.ErrRange)
	}
}

// disc tells one that the checks of TestDisc hold.
func disc(t *testing.T, c geom.Point, h int) points {
	t.Helper()
	l, e := stroke.Disc(c, h)
	if e != api.OK {
		t.Errorf("Disc(%v, %d): %d", c, h, e)
	}
	return l
}

// P7.2: bars, discs and caps, in their order, worked out by hand.
func TestStroke(t *testing.T) {
	a, b, c := at(0, 0), at(10, 0), at(10, 10)
	ab := points{at(0, -2), at(10, -2), at(10, 2), at(0, 2)}
	bc := points{at(12, 0), at(12, 10), at(8, 10), at(8, 0)}
	// Of (-10,-10), whose length is 14, a half width of 2 makes 1.43 and -1.43 aside.
	ca := points{at(9, 11), at(-1, 1), at(1, -1), at(11, 9)}
	ba := points{at(10, 2), at(0, 2), at(0, -2), at(10, -2)}
	head, tail := points{at(-2, -2), at(0, -2), at(0, 2), at(-2, 2)}, points{at(12, 10), at(12, 12), at(8, 12), at(8, 10)}
	da, db, dc := disc(t, a, 2), disc(t, b, 2), disc(t, c, 2)
	checks := []struct {
		s    path.Sub
		cap  int
		want polys
	}{
		{open(a, b, c), 0, polys{ab, bc, db}},
		{open(a, b, c), 1, polys{ab, bc, db, da, dc}},
		{open(a, b, c), 2, polys{ab, bc, db, head, tail}},
		{closed(a, b, c), 0, polys{ab, bc, ca, da, db, dc}},
		{closed(a, b, c), 1, polys{ab, bc, ca, da, db, dc}},
		{closed(a, b, c), 2, polys{ab, bc, ca, da, db, dc}},
		{open(a, b), 0, polys{ab}},
		{open(a, b), 1, polys{ab, da, db}},
		{open(a, b), 2, polys{ab, head, points{at(10, -2), at(12, -2), at(12, 2), at(10, 2)}}},
		{closed(a, b), 0, polys{ab, ba, da, db}},
		{closed(a, b), 2, polys{ab, ba, da, db}},
	}
	for _, k := range checks {
		checkStroke(t, k.s, 2, k.cap, k.want, api.OK)
	}
}

// P7.2: points that are the same as the one ahead are left out, and last ones that are the first one, if it is closed.
func TestStrokeOfSame(t *testing.T) {
	a, b, c := at(0, 0), at(30, 0), at(30, 40)
	checks := []struct{ s, as path.Sub }{
		{open(a, a, b, c), open(a, b, c)},
		{open(a, b, b, b, c), open(a, b, c)},
		{open(a, b, c, c), open(a, b, c)},
		{open(a, a, a, b, b, c, c, c), open(a, b, c)},
		{closed(a, b, c, a), closed(a, b, c)},
		{closed(a, b, c, a, a, a), closed(a, b, c)},
		{closed(a, a, b, c, c, a, a), closed(a, b, c)},
		{closed(a, b, a), closed(a, b)},
		{closed(a, a, b), closed(a, b)},
		{closed(a, b, a, a), closed(a, b)},
	}
	for _, k := range checks {
		for cap := range 3 {
			want, e := stroke.Stroke(k.as, 5, cap)
			checkStroke(t, k.s, 5, cap, want, e)
			if e != api.OK || len(want) == 0 {
				t.Errorf("Stroke(%v): %v, %d", k.as, want, e)
			}
		}
	}
	// One that isn't closed may go back to its first point, and both may go back to others.
	for _, s := range []path.Sub{open(a, b, c, a), open(a, b, a), closed(a, b, c, b), closed(a, b, a, c)} {
		for cap := range 3 {
			want, e := wantStroke(s, 5, cap)
			checkStroke(t, s, 5, cap, want, e)
		}
	}
	if l, e := stroke.Stroke(open(a, b, a), 5, 1); e != api.OK || len(l) != 5 {
		t.Errorf("back to the first point: %v, %d", l, e)
	}
}

// P7.2: one point alone, closed or not, once or several times; and none.
func TestStrokeOfDot(t *testing.T) {
	c := at(5, -5)
	square := polys{points{at(2, -8), at(8, -8), at(8, -2), at(2, -2)}}
	for _, s := range []path.Sub{open(c), closed(c), open(c, c), closed(c, c), open(c, c, c), closed(c, c, c)} {
		checkStroke(t, s, 3, 0, nil, api.OK)
		checkStroke(t, s, 3, 1, polys{disc(t, c, 3)}, api.OK)
		checkStroke(t, s, 3, 2, square, api.OK)
	}
	for cap := range 3 {
		for _, s := range []path.Sub{{}, {Closed: true}, {L: points{}}, {L: points{}, Closed: true}, {L: make(points, 0, 4)}} {
			checkStroke(t, s, 3, cap, nil, api.OK)
		}
	}
}

// P7.2: the steps of a square cap are rounded each by itself, those of the first line and of the last one.
func TestSquareCaps(t *testing.T) {
	// Of (8,3), whose length is 8, a half width of 4 makes (4, 1.5) ahead and (-1.5, 4) aside.
	checkStroke(t, open(at(0, 0), at(8, 3)), 4, 2, polys{
		points{at(1, -4), at(9, -1), at(7, 7), at(-1, 4)},
		points{at(-3, -6), at(1, -4), at(-1, 4), at(-5, 2)},
		points{at(9, -1), at(13, 1), at(11, 9), at(7, 7)},
	}, api.OK)
	// Each end has its own line: the first one goes down, the last one up by (3,-4).
	checkStroke(t, open(at(0, 0), at(0, 9), at(30, -31)), 5, 2, polys{
		points{at(5, 0), at(5, 9), at(-5, 9), at(-5, 0)},
		points{at(-4, 6), at(26, -34), at(34, -28), at(4, 12)},
		disc(t, at(0, 9), 5),
		points{at(5, -5), at(5, 0), at(-5, 0), at(-5, -5)},
		points{at(26, -34), at(29, -38), at(37, -32), at(34, -28)},
	}, api.OK)
}

// anySub has up to n points, some of which are the same.
func anySub(next func(bits int) int, n, bits int) path.Sub {
	s := path.Sub{Closed: next(8) < 0}
	for range from0(next, n+1) {
		p := at(next(bits), next(bits))
		if k := len(s.L); k > 0 && from0(next, 4) == 0 {
			p = s.L[from0(next, 2)*(k-1)]
		}
		s.L = append(s.L, p)
	}
	return s
}

// P7.2: strokes as the document's words have them, of lines near and far.
func TestStrokeByWords(t *testing.T) {
	next := stepper()
	fine := 0
	for i := range 20000 {
		s := anySub(next, 6, 2+i%32)
		h, cap := 1+from0(next, 1<<(i%16)), from0(next, 3)
		want, e := wantStroke(s, h, cap)
		checkStroke(t, s, h, cap, want, e)
		if e == api.OK && len(want) > 3 {
			fine++
		}
	}
	if fine < 5000 {
		t.Errorf("too few strokes: %d", fine)
	}
}

// P7.2: about the ends of room, where bars, discs and caps leave it each by themselves.
func TestStrokeAtEnds(t *testing.T) {
	next := stepper()
	seen := map[api.Errno]int{}
	for i := range 20000 {
		s := anySub(next, 3, 5)
		for k := range s.L {
			s.L[k].X += (far - 20) * (i%3 - 1)
			s.L[k].Y += (far - 20) * (i/3%3 - 1)
		}
		h, cap := 1+from0(next, 12), from0(next, 3)
		want, e := wantStroke(s, h, cap)
		checkStroke(t, s, h, cap, want, e)
		seen[e]++
	}
	if seen[api.OK] < 1000 || seen[api.ErrOverflow] < 1000 {
		t.Errorf("too few of one answer: %v", seen)
	}
}

// P7.2: ErrOverflow of a bar, of a disc alone, of a cap alone.
func TestNoStrokeInRoom(t *testing.T) {
	in, end := at(far-9, 0), at(far, 0)
	checks := []struct {
		s path.Sub
		e [3]api.Errno
	}{
		{open(at(0, 0), at(long+1, 0)), [3]api.Errno{10, 10, 10}},
		{open(at(0, 0), at(5, 0), at(5, long+1)), [3]api.Errno{10, 10, 10}},
		{open(at(0, 0), at(long, 0)), [3]api.Errno{}},
		// Closed, the line back is too long, or of two points as long as the one there.
		{open(at(0, 0), at(long, 0), at(long+1, 0)), [3]api.Errno{}},
		{closed(at(0, 0), at(long, 0), at(long+1, 0)), [3]api.Errno{10, 10, 10}},
		{closed(at(0, 0), at(long, 0), at(long, long)), [3]api.Errno{}},
		{closed(at(0, 0), at(long, 0)), [3]api.Errno{}},
		{open(at(0, far), at(9, far)), [3]api.Errno{10, 10, 10}},
		// A line may end with the room; neither a disc nor a cap has any there.
		{open(in, end), [3]api.Errno{0, 10, 10}},
		{open(end, in), [3]api.Errno{0, 10, 10}},
		{open(in, end, in), [3]api.Errno{10, 10, 10}},
		{closed(in, end), [3]api.Errno{10, 10, 10}},
		{closed(end, in), [3]api.Errno{10, 10, 10}},
		{open(at(0, 9-far), at(0, -far)), [3]api.Errno{0, 10, 10}},
		// Aslant, a square cap goes farther than a disc.
		{open(at(0, 0), at(far/4, far/4)), [3]api.Errno{}},
		{open(at(far-100, far-100), at(far-3, far-3)), [3]api.Errno{0, 0, 10}},
		{open(at(far-3, far-3), at(far-100, far-100)), [3]api.Errno{0, 0, 10}},
		// One point alone.
		{open(end), [3]api.Errno{0, 10, 10}},
		{closed(end), [3]api.Errno{0, 10, 10}},
		{closed(at(far-3, 3-far)), [3]api.Errno{}},
		{open(at(0, far-2)), [3]api.Errno{0, 10, 10}},
		{open(at(0, 2-far)), [3]api.Errno{0, 10, 10}},
		{open(at(2-far, 0)), [3]api.Errno{0, 10, 10}},
		{open(at(far-2, 0)), [3]api.Errno{0, 10, 10}},
	}
	for _, c := range checks {
		for cap, wantE := range c.e {
			if l, e := stroke.Stroke(c.s, 3, cap); e != wantE || e != api.OK && len(l) != 0 {
				t.Errorf("Stroke(%v, 3, %d): %v, %d; not %d", c.s, cap, l, e, wantE)
			}
		}
	}
}

// P7.2: no pens, no caps, and points out of room; also where lines are too long or leave room, and of no point.
func TestNoStroke(t *testing.T) {
	subs := []path.Sub{
		{}, open(at(1, 1)), closed(at(1, 1)), open(at(0, 0), at(9, 9)), closed(at(0, 0), at(9, 9)),
		open(at(-far, 0), at(far, 0)), open(at(0, far), at(9, far)), open(at(far, far)),
	}
	for _, s := range subs {
		for _, h := range []int{0, -1, wide + 1, least, most} {
			for cap := range 3 {
				checkStroke(t, s, h, cap, nil, api.ErrRange)
			}
		}
		for _, cap := range []int{-1, 3, least, most} {
			checkStroke(t, s, 2, cap, nil, api.ErrRange)
		}
		for _, n := range []int{far + 1, -far - 1, least, most} {
			for _, p := range []geom.Point{at(n, 0), at(0, n)} {
				for cap := range 3 {
					checkStroke(t, path.Sub{L: append(slices.Clone(s.L), p), Closed: s.Closed}, 2, cap, nil, api.ErrRange)
					checkStroke(t, path.Sub{L: append(points{p, p}, s.L...), Closed: s.Closed}, 2, cap, nil, api.ErrRange)
				}
			}
		}
	}
}

// goesRound says that l goes round each point about it from 0 to 1 times, and round some.
func goesRound(t *testing.T, l points, what ...any) {
	t.Helper()
	b := geom.Bound(l...)
	some := false
	for y := b.Y0 - 1; y <= b.Y1; y++ {
		for x := b.X0 - 1; x <= b.X1; x++ {
			n := geom.Winds(l, at(x, y))
			if n != 0 && n != 1 {
				t.Fatalf("%v: %v goes round (%d, %d) %d times", what, l, x, y, n)
			}
			some = some || n == 1
		}
	}
	if !some {
		t.Errorf("%v: %v goes round nothing", what, l)
	}
}

// P7.3: all polygons of small lines with every cap.
func TestNeverTheOtherWay(t *testing.T) {
	for dx := -4; dx <= 4; dx++ {
		for dy := -4; dy <= 4; dy++ {
			for h := 1; h <= 5; h++ {
				for cap := range 3 {
					s := path.Sub{L: points{at(0, 0), at(dx, dy)}, Closed: (dx+dy)%2 == 0}
					l, e := stroke.Stroke(s, h, cap)
					if e != api.OK {
						t.Errorf("Stroke(%v, %d, %d): %d", s, h, cap, e)
					}
					for _, p := range l {
						goesRound(t, p, s, h, cap)
					}
				}
			}
		}
	}
}

// turns tells how far it is round from p to q, seen from c: the sign of a cross product.
func turns(c, p, q geom.Point) int { return geom.Side(c, p, q) }

// P7.3: a disc of any pen never goes back, seen from its middle, round which it goes once.
func TestDiscsGoRound(t *testing.T) {
	for h := 1; h <= wide; h++ {
		c := at(h, -3*h)
		l := disc(t, c, h)
		for k, p := range l {
			if turns(c, p, l[(k+1)%16]) < 0 {
				t.Errorf("disc %d goes back at %d: %v", h, k, l)
			}
		}
		if n := geom.Winds(l, c); n != 1 {
			t.Errorf("disc %d goes round its middle %d times", h, n)
		}
		if h <= 40 {
			goesRound(t, l, h)
		}
	}
}

// P7.3: bars and square caps of long lines: four points whose sides are the same lie to the same hand all round.
func TestBarsGoRound(t *testing.T) {
	next := stepper()
	for i := range 20000 {
		bits := 2 + i%28
		a, b := at(next(bits), next(bits)), at(next(bits), next(bits))
		l, e := stroke.Stroke(open(a, b), 1+from0(next, 1<<(i%16)), 2)
		if e != api.OK {
			t.Errorf("Stroke(%v, %v): %d", a, b, e)
		}
		for _, p := range l {
			for k := range p {
				if turns(p[k], p[(k+1)%4], p[(k+2)%4]) <= 0 {
					t.Errorf("%v to %v: %v goes the other way", a, b, p)
				}
			}
		}
	}
}

// P7.4: greater by twice the half width on each side; the zero box of an empty one.
func TestReach(t *testing.T) {
	checks := []struct {
		b    geom.Box
		h    int
		want geom.Box
	}{
		{box(0, 0, 4, 4), 2, box(-4, -4, 8, 8)},
		{box(-9, 5, -8, 70), 1, box(-11, 3, -6, 72)},
		{box(1, 2, 3, 4), wide, box(1-2*wide, 2-2*wide, 3+2*wide, 4+2*wide)},
		{box(-far, -far, far+1, far+1), wide, box(-far-65536, -far-65536, far+65537, far+65537)},
		{box(3, 4, 5, 6), 0, box(3, 4, 5, 6)},
		{geom.Box{}, 2, geom.Box{}},
		{box(5, 5, 5, 9), 2, geom.Box{}},
		{box(5, 5, 9, 5), 2, geom.Box{}},
		{box(9, 5, 5, 9), 2, geom.Box{}},
		{box(5, 9, 9, 5), 2, geom.Box{}},
		{box(9, 9, 5, 5), 2, geom.Box{}},
		{box(1, 1, 0, 0), wide, geom.Box{}},
		{box(most, most, least, least), wide, geom.Box{}},
	}
	for _, c := range checks {
		if got := stroke.Reach(c.b, c.h); got != c.want {
			t.Errorf("Reach(%v, %d): %v, not %v", c.b, c.h, got, c.want)
		}
	}
}

// P7.4: where an int has no room for a side, it ends there, so that what a pen leaves still lies in the box.
func TestReachAtEnds(t *testing.T) {
	checks := []struct {
		b    geom.Box
		h    int
		want geom.Box
	}{
		{box(least, least, most, most), 1, box(least, least, most, most)},
		{box(least+1, least+3, most-1, most-3), 1, box(least, least+1, most, most-1)},
		{box(least+2, least+2, most-2, most-2), 1, box(least, least, most, most)},
		{box(0, 0, 1, 1), most, box(least, least, most, most)},
	}
	for _, c := range checks {
		if got := stroke.Reach(c.b, c.h); got != c.want {
			t.Errorf("Reach(%v, %d): %v, not %v", c.b, c.h, got, c.want)
		}
	}
}

// P7.4: all points that a pen leaves lie in the reach of the points' bound.
func TestAllLiesInReach(t *testing.T) {
	next := stepper()
	for i := range 20000 {
		s := anySub(next, 5, 2+i%28)
		if i%4 == 0 {
			s = open(at(0, 0), at(next(3), next(3)), at(next(3), next(3)))
		}
		h := 1 + from0(next, 1<<(i%16))
		l, e := stroke.Stroke(s, h, from0(next, 3))
		if e != api.OK {
			t.Errorf("Stroke(%v, %d): %d", s, h, e)
		}
		b := stroke.Reach(geom.Bound(s.L...), h)
		for _, p := range slices.Concat(l...) {
			if !b.Has(p) {
				t.Errorf("Stroke(%v, %d): %v is not in %v", s, h, p, b)
			}
		}
	}
}

// P7.5: what is handed in stays, its spare room too.
func TestHandedInStays(t *testing.T) {
	full := points{at(0, 0), at(0, 0), at(9, 0), at(9, 9), at(9, 9), at(0, 0), at(-7, -7), at(-7, -7), at(-6, -6)}
	before := slices.Clone(full)
	for n := range full {
		for cap := -1; cap <= 3; cap++ {
			for _, shut := range []bool{false, true} {
				stroke.Stroke(path.Sub{L: full[:n], Closed: shut}, 3, cap)
				stroke.Stroke(path.Sub{L: full[:n], Closed: shut}, 0, cap)
			}
		}
	}
	if !slices.Equal(full, before) {
		t.Errorf("what was handed in is now %v", full)
	}
}

// spoil writes to all of l, its spare room too.
func spoil(l points) {
	l = l[:cap(l)]
	for i := range l {
		l[i] = at(-77777, 77777)
	}
}

// P7.5: what is told is new memory: no two lists of an answer share any, nor do two answers, nor does an answer and what was handed in.
func TestToldIsNew(t *testing.T) {
	subs := []path.Sub{
		open(at(0, 0), at(9, 0), at(9, 9)), closed(at(0, 0), at(9, 0), at(9, 9)), closed(at(0, 0), at(9, 0), at(0, 0)), open(at(4, 4)),
	}
	for _, s := range subs {
		for cap := range 3 {
			before := slices.Clone(s.L)
			want, _ := wantStroke(s, 3, cap)
			l, _ := stroke.Stroke(s, 3, cap)
			other, _ := stroke.Stroke(s, 3, cap)
			for i := range l {
				if !slices.Equal(l[i], want[i]) {
					t.Errorf("Stroke(%v, 3, %d): list %d shares memory with one ahead", s, cap, i)
				}
				spoil(l[i])
			}
			clear(l[:capOf(l)])
			if !samePolys(other, want) || !slices.Equal(s.L, before) {
				t.Errorf("Stroke(%v, 3, %d) shares memory", s, cap)
			}
		}
	}
	a, _ := stroke.Bar(at(0, 0), at(9, 0), 2)
	b, _ := stroke.Disc(at(0, 0), 2)
	spoil(a)
	spoil(b)
	checkBar(t, at(0, 0), at(9, 0), 2, points{at(0, -2), at(9, -2), at(9, 2), at(0, 2)}, api.OK)
	want, _ := wantDisc(at(0, 0), 2)
	checkDisc(t, at(0, 0), 2, want, api.OK)
}

// capOf is for where cap is a name of the test's own.
func capOf(l polys) int { return cap(l) }

// P7.5: nothing is kept: what is changed behind a call changes nothing that it told.
func TestNothingKept(t *testing.T) {
	s := closed(at(0, 0), at(9, 0), at(9, 9), at(0, 0))
	want, _ := wantStroke(s, 3, 1)
	l, _ := stroke.Stroke(s, 3, 1)
	spoil(s.L)
	if !samePolys(l, want) {
		t.Errorf("what was told has changed: %v", l)
	}
	checkStroke(t, s, 3, 1, polys{disc(t, at(-77777, 77777), 3)}, api.OK)
}

// P1: every call ends, and none panics, whatever it is handed.
func TestWild(t *testing.T) {
	wild := []int{least, least + 1, -far - 1, -far, -long, -1, 0, 1, 2, wide, wide + 1, long, far, far + 1, most - 1, most}
	for _, x := range wild {
		for _, y := range wild {
			for _, h := range wild {
				p, q := at(x, y), at(y, h)
				want, e := wantBar(p, q, h)
				checkBar(t, p, q, h, want, e)
				want, e = wantDisc(p, h)
				checkDisc(t, p, h, want, e)
				for _, s := range []path.Sub{open(p, q), closed(q, p, q), open(p)} {
					for cap := range 3 {
						want, e := wantStroke(s, h, cap)
						checkStroke(t, s, h, cap, want, e)
					}
					stroke.Stroke(s, 2, h)
				}
				stroke.Reach(box(x, y, h, x), y)
				stroke.Reach(box(y, y, x, x), h)
			}
		}
	}
}
