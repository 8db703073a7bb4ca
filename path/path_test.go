package path_test

import (
	"math"
	"slices"
	"testing"

	"limner/affine"
	"limner/api"
	"limner/geom"
	"limner/path"
)

// far is the last number in room.
const far = api.MaxCoord

type (
	points = []geom.Point
	segs   = []path.Seg
)

func at(x, y int) geom.Point { return geom.Point{X: x, Y: y} }

func box(x0, y0, x1, y1 int) geom.Box { return geom.Box{X0: x0, Y0: y0, X1: x1, Y1: y1} }

func seg(kind int, l ...geom.Point) path.Seg {
	s := path.Seg{Kind: kind}
	copy(s.P[:], l)
	return s
}

// shapes has two subpaths with a segment of each kind.
func shapes() segs {
	return segs{
		seg(1, at(0, 0)), seg(2, at(4, 0)), seg(3, at(8, 8), at(4, 8)), seg(5),
		seg(1, at(-9, 9)), seg(4, at(-9, 17), at(-1, 17), at(-1, 9)), seg(2, at(-1, -1)),
	}
}

// stepper tells numbers that look like chance, the same in every run: from -2^(bits-1) up to 2^(bits-1) - 1.
func stepper() func(bits int) int {
	state := uint64(0x9e3779b97f4a7c15)
	return func(bits int) int {
		state ^= state << 13
		state ^= state >> 7
		state ^= state << 17
		return int(int64(state) >> (64 - bits))
	}
}

// points that a segment of Kind 0 to 5 needs, as the document has them.
var wantNeed = []int{0, 1, 1, 2, 3, 0}

// anyPath is a path of up to n segments whose numbers have so many bits.
func anyPath(next func(bits int) int, n, bits int) segs {
	var p segs
	for range (next(16) & 0xffff) % (n + 1) {
		kind := (next(16)&0xffff)%5 + 1
		if len(p) == 0 || p[len(p)-1].Kind == 5 {
			kind = 1
		}
		s := seg(kind)
		for k := range wantNeed[kind] {
			s.P[k] = at(next(bits), next(bits))
		}
		p = append(p, s)
	}
	return p
}

// wantCheck goes by what each segment is, and keeps whether a subpath may go on.
func wantCheck(p segs) api.Errno {
	if len(p) >= 4097 {
		return api.ErrMany
	}
	open := false
	for _, s := range p {
		switch {
		case s.Kind < 1 || s.Kind > 5:
			return api.ErrKind
		case s.Kind == 1:
			open = true
		case !open:
			return api.ErrKind
		case s.Kind == 5:
			open = false
		}
		for k := wantNeed[s.Kind]; k < 3; k++ {
			if s.P[k].X != 0 || s.P[k].Y != 0 {
				return api.ErrKind
			}
		}
		for k := 0; k < wantNeed[s.Kind]; k++ {
			if q := s.P[k]; q.X < -far || q.X > far || q.Y < -far || q.Y > far {
				return api.ErrRange
			}
		}
	}
	return api.OK
}

// middle rounds down, below 0 too.
func middle(p, q geom.Point) geom.Point {
	down := func(n int) int { return (n - (n%2+2)%2) / 2 }
	return at(down(p.X+q.X), down(p.Y+q.Y))
}

// wantHalves goes row by row, as the words of layer 5 do.
func wantHalves(l points) (a, b points) {
	for {
		a = append(a, l[0])
		b = append(points{l[len(l)-1]}, b...)
		if len(l) == 1 {
			return a, b
		}
		var row points
		for i := 1; i < len(l); i++ {
			row = append(row, middle(l[i-1], l[i]))
		}
		l = row
	}
}

func wantCurve(l points, depth int) points {
	if depth == 0 {
		return points{l[len(l)-1]}
	}
	a, b := wantHalves(l)
	return append(wantCurve(a, depth-1), wantCurve(b, depth-1)...)
}

// wantFlat takes one subpath after another off a right path.
func wantFlat(p segs, depth int) []path.Sub {
	var subs []path.Sub
	for len(p) > 0 {
		here := p[0].P[0]
		sub := path.Sub{L: points{here}}
		n := 1
		for ; n < len(p) && p[n].Kind != 1; n++ {
			s := p[n]
			switch s.Kind {
			case 2:
				sub.L = append(sub.L, s.P[0])
			case 3, 4:
				l := append(points{here}, s.P[:s.Kind-1]...)
				sub.L = append(sub.L, wantCurve(l, depth)...)
			case 5:
				sub.Closed = true
				continue
			}
			here = s.P[wantNeed[s.Kind]-1]
		}
		subs = append(subs, sub)
		p = p[n:]
	}
	return subs
}

func sameSub(a, b path.Sub) bool { return a.Closed == b.Closed && slices.Equal(a.L, b.L) }

func checkFlat(t *testing.T, p segs, depth int, want []path.Sub) {
	t.Helper()
	if got, e := path.Flat(p, depth); e != api.OK || !slices.EqualFunc(got, want, sameSub) {
		t.Errorf("Flat(%v, %d): %v, %d; not %v", p, depth, got, e, want)
	}
}

// holds says that a call told a path, or told an error and no path.
func holds(t *testing.T, what string, got segs, e api.Errno, want segs, wantE api.Errno) {
	t.Helper()
	if e != wantE || e == api.OK && !slices.Equal(got, want) || e != api.OK && len(got) != 0 {
		t.Errorf("%s: %v, %d; not %v, %d", what, got, e, want, wantE)
	}
}

// wrongs are paths that are none, each with its error.
func wrongs() []struct {
	p segs
	e api.Errno
} {
	out := at(far+1, 0)
	return []struct {
		p segs
		e api.Errno
	}{
		{make(segs, 4097), api.ErrMany},
		{append(many(4096), seg(9)), api.ErrMany},
		{segs{seg(0)}, api.ErrKind},
		{segs{seg(6)}, api.ErrKind},
		{segs{seg(-1)}, api.ErrKind},
		{segs{seg(math.MaxInt)}, api.ErrKind},
		{segs{seg(math.MinInt)}, api.ErrKind},
		{segs{seg(1), seg(0)}, api.ErrKind},
		{segs{seg(1), seg(6)}, api.ErrKind},
		{segs{seg(2)}, api.ErrKind},
		{segs{seg(3)}, api.ErrKind},
		{segs{seg(4)}, api.ErrKind},
		{segs{seg(5)}, api.ErrKind},
		{segs{seg(1), seg(5), seg(2)}, api.ErrKind},
		{segs{seg(1), seg(5), seg(3)}, api.ErrKind},
		{segs{seg(1), seg(5), seg(4)}, api.ErrKind},
		{segs{seg(1), seg(5), seg(5)}, api.ErrKind},
		// Of one segment ErrKind goes ahead, wherever its fault is.
		{segs{seg(1, out, at(1, 0))}, api.ErrKind},
		{segs{seg(2, out)}, api.ErrKind},
		{segs{seg(6, out)}, api.ErrKind},
		{segs{seg(5, out)}, api.ErrKind},
		{segs{seg(1), seg(5, out)}, api.ErrKind},
		{segs{seg(1), seg(3, out, out, out)}, api.ErrKind},
		// Of two segments the first one that is wrong goes ahead.
		{segs{seg(1, out), seg(6)}, api.ErrRange},
		{segs{seg(1), seg(2, out), seg(5), seg(5)}, api.ErrRange},
		{segs{seg(1), seg(6), seg(1, out)}, api.ErrKind},
	}
}

// many is a path of n segments: a move, and lines.
func many(n int) segs {
	p := segs{seg(1, at(1, 2))}
	for len(p) < n {
		p = append(p, seg(2, at(len(p), -len(p))))
	}
	return p
}

// P6.1: a move and a line need one point, the curves two and three, a close and what is no kind none.
func TestNeed(t *testing.T) {
	for kind, want := range wantNeed {
		if got := path.Need(kind); got != want {
			t.Errorf("Need(%d): %d, not %d", kind, got, want)
		}
	}
	for _, kind := range []int{-1, -2, -5, 6, 7, 256 + 1, 1<<32 + 2, math.MinInt, math.MaxInt} {
		if got := path.Need(kind); got != 0 {
			t.Errorf("Need(%d): %d", kind, got)
		}
	}
}

// P6.1: what is a path, and what is wrong with what is none.
func TestCheckByHand(t *testing.T) {
	for _, p := range []segs{
		nil, {}, shapes(), {seg(1)}, {seg(1), seg(1), seg(1)}, {seg(1), seg(5)}, {seg(1), seg(5), seg(1), seg(5)},
		{seg(1), seg(2)}, {seg(1), seg(3)}, {seg(1), seg(4)}, {seg(1), seg(4), seg(3), seg(2), seg(5), seg(1)},
		many(4095), many(4096), slices.Repeat(segs{seg(1), seg(5)}, 2048),
	} {
		if e := path.Check(p); e != api.OK {
			t.Errorf("Check of a path of %d segments: %d", len(p), e)
		}
	}
	if e := path.Check(many(4097)); e != api.ErrMany {
		t.Errorf("Check of 4097 segments: %d", e)
	}
	for i, c := range wrongs() {
		if e := path.Check(c.p); e != c.e {
			t.Errorf("Check of wrong path %d: %d, not %d", i, e, c.e)
		}
	}
}

// P6.1: each point that a segment needs must be in room, each other one zero.
func TestCheckPoints(t *testing.T) {
	for kind := 1; kind <= 5; kind++ {
		for k := range 3 {
			for _, n := range []int{1, -1, far, -far, far + 1, -far - 1, math.MaxInt, math.MinInt} {
				want := api.OK
				if k >= wantNeed[kind] {
					want = api.ErrKind
				} else if n < -far || n > far {
					want = api.ErrRange
				}
				for _, q := range []geom.Point{at(n, 0), at(0, n)} {
					s := seg(kind)
					s.P[k] = q
					p := segs{seg(1), s, seg(1)}
					if e := path.Check(p); e != want {
						t.Errorf("Check(%v): %d, not %d", p, e, want)
					}
				}
			}
		}
	}
}

// P6.1: paths, and what becomes of them when something in them is another.
func TestCheckExactly(t *testing.T) {
	next := stepper()
	told := map[api.Errno]int{}
	for i := range 30000 {
		p := anyPath(next, 12, 2+i%31)
		if e := path.Check(p); e != api.OK {
			t.Fatalf("Check(%v): %d", p, e)
		}
		for range i % 4 {
			if len(p) == 0 {
				break
			}
			s := &p[(next(16)&0xffff)%len(p)]
			if next(2) < 0 {
				s.Kind = next(4)
			} else {
				s.P[(next(8)&0xff)%3] = at(next(35), 0)
			}
		}
		want := wantCheck(p)
		told[want]++
		if e := path.Check(p); e != want {
			t.Fatalf("Check(%v): %d, not %d", p, e, want)
		}
	}
	if told[api.OK] < 1000 || told[api.ErrKind] < 1000 || told[api.ErrRange] < 1000 {
		t.Errorf("too few of an error: %v", told)
	}
}

// P6.2: the subpaths, worked out by hand.
func TestFlatByHand(t *testing.T) {
	checkFlat(t, nil, 0, nil)
	checkFlat(t, nil, 6, nil)
	square := segs{seg(1, at(0, 0)), seg(2, at(4, 0)), seg(2, at(4, 4)), seg(5)}
	for depth := range 7 {
		checkFlat(t, square, depth, []path.Sub{{L: points{at(0, 0), at(4, 0), at(4, 4)}, Closed: true}})
	}
	checkFlat(t, segs{seg(1, at(1, 2))}, 0, []path.Sub{{L: points{at(1, 2)}}})
	checkFlat(t, segs{seg(1, at(1, 2)), seg(5)}, 0, []path.Sub{{L: points{at(1, 2)}, Closed: true}})
	checkFlat(t, segs{seg(1, at(1, 2)), seg(1, at(3, 4)), seg(5), seg(1, at(1, 2))}, 3,
		[]path.Sub{{L: points{at(1, 2)}}, {L: points{at(3, 4)}, Closed: true}, {L: points{at(1, 2)}}})
	// Points that are the same as the one ahead are points, too.
	checkFlat(t, segs{seg(1), seg(2), seg(3), seg(5)}, 1, []path.Sub{{L: make(points, 4), Closed: true}})
	checkFlat(t, shapes(), 0, []path.Sub{
		{L: points{at(0, 0), at(4, 0), at(4, 8)}, Closed: true},
		{L: points{at(-9, 9), at(-1, 9), at(-1, -1)}},
	})
	checkFlat(t, shapes(), 1, []path.Sub{
		{L: points{at(0, 0), at(4, 0), at(6, 6), at(4, 8)}, Closed: true},
		{L: points{at(-9, 9), at(-5, 15), at(-1, 9), at(-1, -1)}},
	})
	// A curve begins where a curve ends.
	checkFlat(t, segs{seg(1, at(8, 8)), seg(3, at(0, 0), at(0, 8)), seg(3, at(0, 0), at(8, 0))}, 1,
		[]path.Sub{{L: points{at(8, 8), at(2, 4), at(0, 8), at(2, 2), at(8, 0)}}})
}

// P6.2: the subpaths, at every depth, about the ends of what is in room, too.
func TestFlatExactly(t *testing.T) {
	next := stepper()
	for i := range 3000 {
		p := anyPath(next, 12, 2+i%31)
		checkFlat(t, p, i%7, wantFlat(p, i%7))
	}
	p := segs{seg(1, at(far, -far)), seg(4, at(-far, far), at(far, far), at(-far, -far)), seg(3, at(far, 0), at(far, far)), seg(5)}
	for depth := range 7 {
		checkFlat(t, p, depth, wantFlat(p, depth))
	}
}

// P6.2: the greatest path.
func TestFlatMost(t *testing.T) {
	p := segs{seg(1)}
	for len(p) < api.MaxNodes {
		p = append(p, seg(4, at(len(p), 0), at(0, len(p)), at(len(p), -len(p))))
	}
	checkFlat(t, p, 6, wantFlat(p, 6))
}

// P6.2: Check's error goes ahead of a depth that is none, which is refused of every path.
func TestFlatRefuses(t *testing.T) {
	depths := []int{-1, 7, -2, 8, 62, 64, 256, math.MinInt, math.MaxInt}
	for _, depth := range depths {
		for _, p := range []segs{nil, {seg(1)}, shapes(), many(4096)} {
			if got, e := path.Flat(p, depth); e != api.ErrRange || len(got) != 0 {
				t.Errorf("Flat of %d segments, %d: %v, %d", len(p), depth, got, e)
			}
		}
	}
	for i, c := range wrongs() {
		for _, depth := range append(depths, 0, 6) {
			if got, e := path.Flat(c.p, depth); e != c.e || len(got) != 0 {
				t.Errorf("Flat of wrong path %d, %d: %v, %d; not %d", i, depth, got, e, c.e)
			}
		}
	}
}

// P6.3: a point elsewhere.
func TestPut(t *testing.T) {
	to := at(77, -77)
	for i, s := range shapes() {
		for k := -1; k <= 4; k++ {
			want, wantE := shapes(), api.ErrRange
			if k >= 0 && k < wantNeed[s.Kind] {
				want[i].P[k], wantE = to, api.OK
			}
			got, e := path.Put(shapes(), i, k, to)
			holds(t, "Put", got, e, want, wantE)
		}
	}
	for _, k := range []int{math.MinInt, math.MaxInt} {
		got, e := path.Put(shapes(), 0, k, to)
		holds(t, "Put of no point", got, e, nil, api.ErrRange)
	}
	for _, i := range []int{-1, 7, 8, math.MinInt, math.MaxInt} {
		got, e := path.Put(shapes(), i, 0, to)
		holds(t, "Put of no segment", got, e, nil, api.ErrRange)
	}
	got, e := path.Put(nil, 0, 0, to)
	holds(t, "Put of nothing", got, e, nil, api.ErrRange)
}

// P6.3: a point that leaves the room is refused, the last one in it is not.
func TestPutRoom(t *testing.T) {
	for _, out := range []int{far + 1, -far - 1, math.MaxInt, math.MinInt} {
		for _, to := range []geom.Point{at(out, 0), at(0, out)} {
			got, e := path.Put(shapes(), 5, 2, to)
			holds(t, "Put out of room", got, e, nil, api.ErrRange)
		}
	}
	want := shapes()
	want[5].P[1] = at(-far, far)
	got, e := path.Put(shapes(), 5, 1, at(-far, far))
	holds(t, "Put at the ends", got, e, want, api.OK)
	got, e = path.Put(many(4096), 4095, 0, at(4095, -4095))
	holds(t, "Put in the greatest path", got, e, many(4096), api.OK)
}

// P6.3: a segment more, ahead of each one and at the end, or the error of what comes of it.
func TestInsert(t *testing.T) {
	for _, s := range []path.Seg{
		seg(1, at(7, 8)), seg(2, at(7, 8)), seg(3, at(7, 8), at(9, 9)), seg(4, at(1, 1), at(2, 2), at(far, -far)), seg(5),
		{}, seg(6), seg(-1), seg(2, at(7, 8), at(0, 1)), seg(5, at(1, 0)), seg(2, at(far+1, 0)), seg(1, at(0, -far-1)),
	} {
		for _, p := range []segs{nil, shapes(), {seg(1), seg(5)}} {
			for i := range len(p) + 1 {
				want := slices.Insert(slices.Clone(p), i, s)
				got, e := path.Insert(p, i, s)
				holds(t, "Insert", got, e, want, wantCheck(want))
			}
		}
	}
}

// P6.3: what Insert refuses, by hand: the place, what may not stand there, and what the one behind it makes of it.
func TestInsertRefuses(t *testing.T) {
	p := shapes()
	for _, c := range []struct {
		i int
		s path.Seg
		e api.Errno
	}{
		{-1, seg(1), api.ErrRange},
		{8, seg(1), api.ErrRange},
		{math.MinInt, seg(1), api.ErrRange},
		{math.MaxInt, seg(1), api.ErrRange},
		{8, seg(9), api.ErrRange},
		{0, seg(2), api.ErrKind},
		{0, seg(5), api.ErrKind},
		{1, seg(5), api.ErrKind},
		{3, seg(5), api.ErrKind},
		{4, seg(5), api.ErrKind},
		{4, seg(2), api.ErrKind},
		{7, seg(5), api.OK},
		{0, seg(1), api.OK},
		{4, seg(1), api.OK},
		{3, seg(1), api.OK},
	} {
		got, e := path.Insert(p, c.i, c.s)
		if e != c.e || (e == api.OK) != (len(got) == 8) || e != api.OK && len(got) != 0 {
			t.Errorf("Insert %d %v: %v, %d; not %d", c.i, c.s, got, e, c.e)
		}
	}
}

// P6.3: there is room for a segment more up to MaxNodes.
func TestInsertMany(t *testing.T) {
	got, e := path.Insert(many(4095), 4095, seg(2, at(4095, -4095)))
	holds(t, "Insert up to the most", got, e, many(4096), api.OK)
	for _, s := range []path.Seg{seg(2), seg(9), seg(2, at(far+1, 0))} {
		got, e = path.Insert(many(4096), 1, s)
		holds(t, "Insert past the most", got, e, nil, api.ErrMany)
	}
	got, e = path.Insert(many(4096), 4097, seg(2))
	holds(t, "Insert past the most at no place", got, e, nil, api.ErrRange)
}

// P6.3: a segment less, or the error of what comes of it.
func TestDelete(t *testing.T) {
	for _, p := range []segs{shapes(), {seg(1)}, {seg(1), seg(1), seg(5)}, {seg(1), seg(5), seg(1), seg(3)}} {
		for i := range p {
			want := slices.Delete(slices.Clone(p), i, i+1)
			got, e := path.Delete(p, i)
			holds(t, "Delete", got, e, want, wantCheck(want))
		}
	}
	for i, want := range []api.Errno{api.ErrKind, api.OK, api.OK, api.OK, api.ErrKind, api.OK, api.OK} {
		if got, e := path.Delete(shapes(), i); e != want || e != api.OK && len(got) != 0 {
			t.Errorf("Delete %d: %v, %d; not %d", i, got, e, want)
		}
	}
	for _, i := range []int{-1, 7, 8, math.MinInt, math.MaxInt} {
		got, e := path.Delete(shapes(), i)
		holds(t, "Delete of no segment", got, e, nil, api.ErrRange)
	}
	got, e := path.Delete(nil, 0)
	holds(t, "Delete of nothing", got, e, nil, api.ErrRange)
	got, e = path.Delete(many(4096), 4095)
	holds(t, "Delete of the last", got, e, many(4095), api.OK)
}

// P6.4: two in the place of one, worked out by hand.
func TestSplitByHand(t *testing.T) {
	for _, c := range []struct {
		i    int
		a, b path.Seg
	}{
		{1, seg(2, at(2, 0)), seg(2, at(4, 0))},
		{2, seg(3, at(6, 4), at(6, 6)), seg(3, at(6, 8), at(4, 8))},
		{5, seg(4, at(-9, 13), at(-7, 15), at(-5, 15)), seg(4, at(-3, 15), at(-1, 13), at(-1, 9))},
		{6, seg(2, at(-1, 4)), seg(2, at(-1, -1))},
	} {
		p := shapes()
		want := append(append(slices.Clone(p[:c.i]), c.a, c.b), p[c.i+1:]...)
		got, e := path.Split(p, c.i)
		holds(t, "Split", got, e, want, api.OK)
	}
	// The middle is rounded down.
	got, e := path.Split(segs{seg(1, at(-1, 3)), seg(2, at(0, -6))}, 1)
	holds(t, "Split", got, e, segs{seg(1, at(-1, 3)), seg(2, at(-1, -2)), seg(2, at(0, -6))}, api.OK)
}

// P6.4: what is split goes where it went.
func TestSplitExactly(t *testing.T) {
	next := stepper()
	for i := range 3000 {
		p := anyPath(next, 12, 2+i%31)
		for j, s := range p {
			got, e := path.Split(p, j)
			if s.Kind == 1 || s.Kind == 5 {
				holds(t, "Split", got, e, nil, api.ErrKind)
				continue
			}
			from := p[j-1].P[wantNeed[p[j-1].Kind]-1]
			a, b := wantHalves(append(points{from}, s.P[:wantNeed[s.Kind]]...))
			want := append(append(slices.Clone(p[:j]), seg(s.Kind, a[1:]...), seg(s.Kind, b[1:]...)), p[j+1:]...)
			holds(t, "Split", got, e, want, api.OK)
		}
	}
}

// P6.4: what is refused, in its order: the place, the kind, too many.
func TestSplitRefuses(t *testing.T) {
	for _, i := range []int{-1, 7, 8, math.MinInt, math.MaxInt} {
		got, e := path.Split(shapes(), i)
		holds(t, "Split of no segment", got, e, nil, api.ErrRange)
	}
	for _, i := range []int{0, 3, 4} {
		got, e := path.Split(shapes(), i)
		holds(t, "Split of a move or close", got, e, nil, api.ErrKind)
	}
	got, e := path.Split(nil, 0)
	holds(t, "Split of nothing", got, e, nil, api.ErrRange)
	got, e = path.Split(many(4096), 4096)
	holds(t, "Split of no segment of the most", got, e, nil, api.ErrRange)
	got, e = path.Split(many(4096), 0)
	holds(t, "Split of a move of the most", got, e, nil, api.ErrKind)
	got, e = path.Split(many(4096), 4095)
	holds(t, "Split past the most", got, e, nil, api.ErrMany)
	if got, e = path.Split(many(4095), 4094); e != api.OK || len(got) != 4096 {
		t.Errorf("Split up to the most: %d segments, %d", len(got), e)
	}
}

// P6.3, P6.4, P6.5: what is no path is refused with Check's error, whatever else is wrong.
func TestNoPath(t *testing.T) {
	for _, c := range wrongs() {
		for _, i := range []int{0, 1, len(c.p) - 1, -1, len(c.p), len(c.p) + 1} {
			for _, k := range []int{0, -1, 3} {
				got, e := path.Put(c.p, i, k, at(far+1, 0))
				holds(t, "Put in no path", got, e, nil, c.e)
			}
			got, e := path.Insert(c.p, i, seg(1))
			holds(t, "Insert into no path", got, e, nil, c.e)
			got, e = path.Delete(c.p, i)
			holds(t, "Delete of no path", got, e, nil, c.e)
			got, e = path.Split(c.p, i)
			holds(t, "Split of no path", got, e, nil, c.e)
		}
		for _, m := range []affine.Matrix{affine.One(), {}, {A: api.MaxEntry + 1}} {
			got, e := path.Apply(c.p, m)
			holds(t, "Apply of no path", got, e, nil, c.e)
		}
	}
}

// P6.5: what a matrix makes of each point that is needed, and of no other.
func TestApply(t *testing.T) {
	got, e := path.Apply(shapes(), affine.Move(1, 2))
	want := segs{
		seg(1, at(1, 2)), seg(2, at(5, 2)), seg(3, at(9, 10), at(5, 10)), seg(5),
		seg(1, at(-8, 11)), seg(4, at(-8, 19), at(0, 19), at(0, 11)), seg(2, at(0, 1)),
	}
	holds(t, "Apply of a move", got, e, want, api.OK)
	got, e = path.Apply(shapes(), affine.Quarter(1))
	want = segs{
		seg(1, at(0, 0)), seg(2, at(0, 4)), seg(3, at(-8, 8), at(-8, 4)), seg(5),
		seg(1, at(-9, -9)), seg(4, at(-17, -9), at(-17, -1), at(-9, -1)), seg(2, at(1, -1)),
	}
	holds(t, "Apply of a quarter", got, e, want, api.OK)
	got, e = path.Apply(nil, affine.Move(1, 2))
	holds(t, "Apply to nothing", got, e, nil, api.OK)
	if got, e = path.Apply(many(4096), affine.One()); e != api.OK || !slices.Equal(got, many(4096)) {
		t.Errorf("Apply to the most: %d segments, %d", len(got), e)
	}
	next := stepper()
	for i := range 3000 {
		p := anyPath(next, 12, 2+i%31)
		m := affine.Matrix{A: next(19), B: next(19), C: next(19), D: next(19), E: next(2 + i%31), F: next(30)}
		got, e := path.Apply(p, m)
		want, wantE := wantApply(p, m)
		holds(t, "Apply", got, e, want, wantE)
	}
}

// wantApply has each point made by layer 4, of a right path.
func wantApply(p segs, m affine.Matrix) (segs, api.Errno) {
	p = slices.Clone(p)
	for i, s := range p {
		for k := 0; k < wantNeed[s.Kind]; k++ {
			q, e := m.Apply(s.P[k])
			if e != api.OK {
				return nil, api.ErrOverflow
			}
			p[i].P[k] = q
		}
	}
	return p, api.OK
}

// P6.5: a matrix that is not right, and one that refuses a point, are refused.
func TestApplyRefuses(t *testing.T) {
	for _, m := range []affine.Matrix{
		{A: api.MaxEntry + 1}, {D: -api.MaxEntry - 1}, affine.Move(far+1, 0), affine.Move(0, -far-1), {B: math.MaxInt}, {C: math.MinInt},
	} {
		for _, p := range []segs{nil, {seg(1)}, shapes()} {
			got, e := path.Apply(p, m)
			holds(t, "Apply of a wrong matrix", got, e, nil, api.ErrOverflow)
		}
	}
	for i, s := range shapes() {
		for k := range wantNeed[s.Kind] {
			p := shapes()
			p[i].P[k] = at(0, far)
			got, e := path.Apply(p, affine.Move(0, 1))
			holds(t, "Apply that leaves the room", got, e, nil, api.ErrOverflow)
			if _, e = path.Apply(p, affine.Move(0, -1)); e != api.OK {
				t.Errorf("Apply within room: %d", e)
			}
		}
	}
	// What is not needed is not made: moved, it would leave the room.
	p := segs{seg(1, at(-far, 0)), seg(2, at(-5, 0)), seg(3, at(-5, 0), at(-far, 0)), seg(5)}
	want := segs{seg(1, at(0, 0)), seg(2, at(far-5, 0)), seg(3, at(far-5, 0), at(0, 0)), seg(5)}
	got, e := path.Apply(p, affine.Move(far, 0))
	holds(t, "Apply of a great move", got, e, want, api.OK)
}

// P6.5: the bound of all points that are needed, curves' own too, and of no others.
func TestBound(t *testing.T) {
	for _, c := range []struct {
		p    segs
		want geom.Box
	}{
		{nil, box(0, 0, 0, 0)},
		{segs{seg(5)}, box(0, 0, 0, 0)},
		{segs{seg(1, at(3, 4))}, box(3, 4, 4, 5)},
		{segs{seg(1, at(3, 4)), seg(5)}, box(3, 4, 4, 5)},
		{segs{seg(1, at(3, 4)), seg(2, at(9, 9)), seg(5), seg(1, at(4, -7))}, box(3, -7, 10, 10)},
		{segs{seg(1, at(3, 4)), seg(3, at(9, 1), at(5, 5))}, box(3, 1, 10, 6)},
		{segs{seg(1, at(3, 4)), seg(4, at(9, 1), at(-5, 5), at(4, 4))}, box(-5, 1, 10, 6)},
		{shapes(), box(-9, -1, 9, 18)},
		{segs{seg(1, at(far, far)), seg(2, at(-far, -far))}, box(-far, -far, far+1, far+1)},
		// Of what is no path, too, the points that are needed count.
		{segs{seg(2, at(3, 4), at(9, 9)), seg(6, at(1, 1)), seg(0, at(-1, 1)), seg(5, at(-8, 0))}, box(3, 4, 4, 5)},
		{many(5000), box(1, -4999, 5000, 3)},
	} {
		if got := path.Bound(c.p); got != c.want {
			t.Errorf("Bound(%v): %v, not %v", c.p, got, c.want)
		}
	}
	next := stepper()
	for i := range 3000 {
		p := anyPath(next, 12, 2+i%31)
		var l points
		for _, s := range p {
			l = append(l, s.P[:wantNeed[s.Kind]]...)
		}
		if got, want := path.Bound(p), geom.Bound(l...); got != want {
			t.Fatalf("Bound(%v): %v, not %v", p, got, want)
		}
	}
}

// P6.5: one are two with the same segments, in the same order.
func TestEqual(t *testing.T) {
	for _, c := range []struct {
		p, q segs
		want bool
	}{
		{nil, nil, true},
		{nil, segs{}, true},
		{segs{}, nil, true},
		{shapes(), shapes(), true},
		{many(4096), many(4096), true},
		{many(4096), many(4095), false},
		{nil, segs{seg(1)}, false},
		{segs{seg(1)}, nil, false},
		{segs{seg(1)}, segs{{}}, false},
		{segs{seg(1), seg(2)}, segs{seg(1)}, false},
		{segs{seg(1)}, segs{seg(1), seg(2)}, false},
		{segs{seg(1), seg(2)}, segs{seg(1), seg(1)}, false},
		{segs{seg(1, at(1, 1)), seg(1)}, segs{seg(1), seg(1, at(1, 1))}, false},
	} {
		if got := path.Equal(c.p, c.q); got != c.want {
			t.Errorf("Equal(%v, %v): %v", c.p, c.q, got)
		}
	}
	for i := range shapes() {
		for k := range 3 {
			p, q, r := shapes(), shapes(), shapes()
			p[i].P[k].X++
			q[i].P[k].Y++
			r[i].Kind++
			if path.Equal(p, shapes()) || path.Equal(shapes(), q) || path.Equal(r, shapes()) {
				t.Errorf("another point %d or kind in segment %d is told as one", k, i)
			}
		}
	}
}

// roomy is p with spare room, which holds segments, too.
func roomy(p segs) (whole, part segs) {
	whole = append(slices.Clone(p), slices.Repeat(segs{seg(4, at(1, 2), at(3, 4), at(5, 6))}, 9)...)
	return whole, whole[:len(p)]
}

// told is what all calls tell of p that tell paths.
func told(p segs) []segs {
	var l []segs
	keep := func(q segs, _ api.Errno) { l = append(l, q) }
	keep(path.Put(p, 2, 1, at(5, 5)))
	keep(path.Insert(p, 7, seg(2, at(1, 1))))
	keep(path.Insert(p, 2, seg(2, at(1, 1))))
	keep(path.Insert(p, 0, seg(1, at(1, 1))))
	keep(path.Delete(p, 6))
	keep(path.Delete(p, 1))
	keep(path.Split(p, 1))
	keep(path.Split(p, 2))
	keep(path.Split(p, 6))
	keep(path.Apply(p, affine.One()))
	return l
}

// P6.6: what is handed in isn't changed, its spare room neither.
func TestHandedInStays(t *testing.T) {
	whole, p := roomy(shapes())
	was := slices.Clone(whole)
	for range 2 {
		told(p)
		path.Check(p)
		path.Flat(p, 3)
		path.Bound(p)
		path.Equal(p, p)
		path.Put(p, 2, 1, at(far+1, 0))
		path.Insert(p, 2, seg(9))
		path.Delete(p, 0)
		path.Apply(p, affine.Move(far, 0))
		if !slices.Equal(whole, was) {
			t.Fatalf("%v became %v", was, whole)
		}
	}
}

// P6.6: what is told shares no memory with what was handed in, nor with anything else that is told.
func TestToldIsNew(t *testing.T) {
	_, p := roomy(shapes())
	lists := append(append(told(p), told(p)...), p)
	for i, l := range lists {
		l = l[:cap(l)]
		for j := range l {
			l[j] = seg(i)
		}
	}
	for i, l := range lists {
		for _, s := range l[:cap(l)] {
			if s != seg(i) {
				t.Fatalf("list %d shares memory with another", i)
			}
		}
	}
}

// P6.6: the points of each subpath are a list of their own, spare room too, and the subpaths are.
func TestFlatIsNew(t *testing.T) {
	p := append(shapes(), segs{seg(1), seg(1), seg(2), seg(2), seg(2), seg(5), seg(1)}...)
	a, _ := path.Flat(p, 2)
	b, _ := path.Flat(p, 2)
	var lists []points
	for _, sub := range append(slices.Clone(a), b...) {
		lists = append(lists, sub.L)
	}
	for i, l := range lists {
		l = l[:cap(l)]
		for j := range l {
			l[j] = at(i, i)
		}
	}
	for i, l := range lists {
		for _, q := range l[:cap(l)] {
			if q != at(i, i) {
				t.Fatalf("the points of subpath %d share memory with others", i)
			}
		}
	}
	clear(a[:cap(a)])
	for i, sub := range b {
		if sub.L == nil {
			t.Fatalf("subpath %d shares memory with another answer's", i)
		}
	}
}

// P6.6: what was told stays as it was, when what was handed in is changed.
func TestNothingKept(t *testing.T) {
	p := shapes()
	lists, subs := told(p), wantFlat(p, 2)
	was := told(shapes())
	got, _ := path.Flat(p, 2)
	clear(p)
	if !slices.EqualFunc(lists, was, func(a, b segs) bool { return slices.Equal(a, b) }) {
		t.Errorf("%v became %v", was, lists)
	}
	if !slices.EqualFunc(got, subs, sameSub) {
		t.Errorf("%v became %v", subs, got)
	}
}

// P1: no call panics, and each ends, whatever the numbers.
func TestWild(t *testing.T) {
	next := stepper()
	ends := []int{math.MinInt, math.MaxInt, -far - 1, far + 1, -far, far, 0, 1}
	wild := func() int {
		if n := next(5); n >= 0 && n < len(ends) {
			return ends[n]
		}
		return next(33 + next(6))
	}
	point := func() geom.Point { return at(wild(), wild()) }
	for i := range 20000 {
		p := anyPath(next, 9, 33)
		if i%3 == 0 {
			for range next(3) & 7 {
				p = append(p, seg(next(4), point(), point(), point()))
			}
		}
		m := affine.Matrix{A: wild(), B: next(20), C: next(25), D: wild(), E: wild(), F: next(33)}
		for _, j := range []int{wild(), next(4)} {
			path.Need(j)
			path.Flat(p, j)
			path.Put(p, j, next(3), point())
			path.Put(p, j, wild(), point())
			path.Insert(p, j, seg(next(4), point()))
			path.Delete(p, j)
			path.Split(p, j)
		}
		path.Check(p)
		path.Apply(p, m)
		path.Bound(p)
		path.Equal(p, anyPath(next, 2, 2))
	}
}
