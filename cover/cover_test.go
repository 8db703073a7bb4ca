package cover_test

import (
	"math"
	"math/big"
	"slices"
	"testing"

	"limner/api"
	"limner/cover"
	"limner/geom"
)

const (
	// far is the last number in room, edge the last one of a window.
	far  = api.MaxCoord
	edge = 1 << 22

	least, most = math.MinInt, math.MaxInt
)

type (
	points = []geom.Point
	polys  = [][]geom.Point
)

func at(x, y int) geom.Point { return geom.Point{X: x, Y: y} }

func box(x0, y0, x1, y1 int) geom.Box { return geom.Box{X0: x0, Y0: y0, X1: x1, Y1: y1} }

// rect is the rectangle from its first corner to its last one, going once round what is in it.
func rect(x0, y0, x1, y1 int) points { return points{at(x0, y0), at(x1, y0), at(x1, y1), at(x0, y1)} }

// turned is l, going the other way.
func turned(l points) points {
	l = slices.Clone(l)
	slices.Reverse(l)
	return l
}

// stepper tells numbers that look like chance, the same in every run: from -2^(bits-1) up to 2^(bits-1) - 1.
func stepper() func(bits int) int {
	state := uint64(0x9e3779b97f4a7c15)
	return func(bits int) int {
		state ^= state << 13
		state ^= state >> 7
		state ^= state << 17
		return int(int64(state) >> (64 - bits))
	}
}

// from0 tells such a number from 0 up to n - 1.
func from0(next func(bits int) int, n int) int { return (next(32) & math.MaxUint32) % n }

// wantSide tells the side by the document's words, in exact numbers.
func wantSide(a, b, c geom.Point) int {
	less := func(p, q int) *big.Int { return big.NewInt(int64(p) - int64(q)) }
	one := less(b.X, a.X)
	one.Mul(one, less(c.Y, a.Y))
	two := less(b.Y, a.Y)
	two.Mul(two, less(c.X, a.X))
	return one.Cmp(two)
}

// wantInside tells by the document's words whether polygons go round s.
func wantInside(l polys, rule int, s geom.Point) bool {
	times := 0
	for _, poly := range l {
		for i, p := range poly {
			q := poly[(i+1)%len(poly)]
			if p.Y <= s.Y && s.Y < q.Y && wantSide(p, q, s) > 0 {
				times++
			}
			if q.Y <= s.Y && s.Y < p.Y && wantSide(p, q, s) < 0 {
				times--
			}
		}
	}
	return rule == 1 && times != 0 || rule == 2 && times%2 != 0
}

// eachSample hands over the sixteen samples of a pixel, as the document writes them.
func eachSample(x, y int, do func(s geom.Point)) {
	for _, dy := range []int{32, 96, 160, 224} {
		for _, dx := range []int{32, 96, 160, 224} {
			do(at(256*x+dx, 256*y+dy))
		}
	}
}

// wantMask tells a mask, sample by sample.
func wantMask(w geom.Box, inside func(s geom.Point) bool) []byte {
	var mask []byte
	for y := w.Y0; y < w.Y1; y++ {
		for x := w.X0; x < w.X1; x++ {
			n := byte(0)
			eachSample(x, y, func(s geom.Point) {
				if inside(s) {
					n++
				}
			})
			mask = append(mask, n)
		}
	}
	return mask
}

func checkMask(t *testing.T, l polys, rule int, w geom.Box, want []byte, wantE api.Errno) {
	t.Helper()
	if got, e := cover.Mask(l, rule, w); e != wantE || !slices.Equal(got, want) {
		t.Errorf("Mask(%v, %d, %v): %v, %d; not %v, %d", l, rule, w, got, e, want, wantE)
	}
}

// checkBySamples holds both masks of w against what is wanted of each sample.
func checkBySamples(t *testing.T, l polys, w geom.Box) {
	t.Helper()
	for rule := 1; rule <= 2; rule++ {
		want := wantMask(w, func(s geom.Point) bool { return wantInside(l, rule, s) })
		checkMask(t, l, rule, w, want, api.OK)
	}
}

// P8.1: Inside, worked out by hand.
func TestInsideByHand(t *testing.T) {
	sq := rect(0, 0, 8, 8)
	small := rect(2, 2, 6, 6)
	for _, c := range []struct {
		l    polys
		s    geom.Point
		want [2]bool // by the rule 1, and by 2
	}{
		{nil, at(0, 0), [2]bool{}},
		{polys{nil, {}, {at(0, 0)}, {at(0, 0), at(0, 9)}}, at(0, 0), [2]bool{}},
		{polys{sq}, at(4, 4), [2]bool{true, true}},
		{polys{turned(sq)}, at(4, 4), [2]bool{true, true}},
		{polys{sq}, at(9, 4), [2]bool{}},
		{polys{sq}, at(-1, 4), [2]bool{}},
		{polys{sq}, at(4, -1), [2]bool{}},
		{polys{sq}, at(4, 9), [2]bool{}},
		// Of the points on its sides it has the upper ones and those on the left, but for the ends.
		{polys{sq}, at(0, 0), [2]bool{true, true}},
		{polys{sq}, at(0, 7), [2]bool{true, true}},
		{polys{sq}, at(7, 0), [2]bool{true, true}},
		{polys{sq}, at(8, 0), [2]bool{}},
		{polys{sq}, at(0, 8), [2]bool{}},
		{polys{sq}, at(8, 8), [2]bool{}},
		{polys{turned(sq)}, at(0, 0), [2]bool{true, true}},
		{polys{turned(sq)}, at(8, 0), [2]bool{}},
		// Twice round is inside by the rule nonzero alone, thrice by both.
		{polys{sq, sq}, at(4, 4), [2]bool{true, false}},
		{polys{sq, small}, at(4, 4), [2]bool{true, false}},
		{polys{sq, small}, at(1, 1), [2]bool{true, true}},
		{polys{turned(sq), turned(sq)}, at(4, 4), [2]bool{true, false}},
		{polys{sq, sq, sq}, at(4, 4), [2]bool{true, true}},
		{polys{turned(sq), turned(sq), turned(sq)}, at(4, 4), [2]bool{true, true}},
		{polys{slices.Concat(sq, sq)}, at(4, 4), [2]bool{true, false}},
		// Once round and once the other way are none.
		{polys{sq, turned(sq)}, at(4, 4), [2]bool{}},
		{polys{sq, turned(small)}, at(4, 4), [2]bool{}},
		{polys{sq, turned(small)}, at(1, 4), [2]bool{true, true}},
		{polys{sq, turned(small), sq}, at(4, 4), [2]bool{true, true}},
		// About the ends of room.
		{polys{rect(-far, -far, far, far)}, at(-far, -far), [2]bool{true, true}},
		{polys{rect(-far, -far, far, far)}, at(far-1, far-1), [2]bool{true, true}},
		{polys{rect(-far, -far, far, far)}, at(far, far-1), [2]bool{}},
		{polys{{at(-far, -far), at(far, far), at(-far, far)}}, at(far-1, far-1), [2]bool{}},
		{polys{{at(-far, -far), at(far, far), at(-far, far)}}, at(far-2, far-1), [2]bool{true, true}},
	} {
		for i, want := range c.want {
			if got := cover.Inside(c.l, i+1, c.s); got != want {
				t.Errorf("Inside(%v, %d, %v): %t", c.l, i+1, c.s, got)
			}
		}
	}
}

// P8.1: by a rule that is none nothing is inside.
func TestInsideOtherRules(t *testing.T) {
	sq := rect(0, 0, 8, 8)
	for _, rule := range []int{0, 3, 4, 5, -1, -2, 257, 258, 1<<32 + 1, 1<<32 + 2, least, least + 1, most} {
		for _, l := range []polys{nil, {sq}, {sq, sq}, {turned(sq)}, {sq, turned(sq)}} {
			if cover.Inside(l, rule, at(4, 4)) {
				t.Errorf("Inside(%v, %d)", l, rule)
			}
		}
	}
}

// anyPolys tells some polygons with points of so many bits, moved, some of them of few points or of none.
func anyPolys(next func(bits int) int, bits int, to geom.Point) polys {
	l := make(polys, from0(next, 4))
	for i := range l {
		for range from0(next, 8) {
			l[i] = append(l[i], at(to.X+next(bits), to.Y+next(bits)))
		}
	}
	return l
}

// P8.1: Inside of polygons of all sizes, also where points lie on edges and in line.
func TestInside(t *testing.T) {
	next := stepper()
	for i := range 40000 {
		bits := 3 + i%30
		l := anyPolys(next, bits, at(0, 0))
		s := at(next(bits), next(bits))
		for rule := 1; rule <= 2; rule++ {
			if got := cover.Inside(l, rule, s); got != wantInside(l, rule, s) {
				t.Errorf("Inside(%v, %d, %v): %t", l, rule, s, got)
			}
		}
	}
}

// P8.2: masks, worked out by hand.
func TestMaskByHand(t *testing.T) {
	one := box(0, 0, 1, 1)
	half := rect(0, 0, 256, 128)
	whole := rect(0, 0, 256, 256)
	for _, c := range []struct {
		l    polys
		rule int
		w    geom.Box
		want []byte
	}{
		{polys{half}, 1, one, []byte{8}},
		{polys{half, half}, 1, one, []byte{8}},
		{polys{half, half}, 2, one, []byte{0}},
		{polys{half, half, half}, 2, one, []byte{8}},
		{polys{half, turned(half)}, 1, one, []byte{0}},
		{polys{whole, half}, 2, one, []byte{8}},
		{polys{whole, half}, 1, one, []byte{16}},
		{polys{whole, turned(half)}, 1, one, []byte{8}},
		{nil, 1, box(3, 4, 6, 6), make([]byte, 6)},
		{polys{}, 2, box(-3, -4, -1, -1), make([]byte, 6)},
		{polys{nil, {}, {at(32, 32)}, {at(0, 0), at(256, 256)}}, 1, one, []byte{0}},
		// Of the points on the slanted side none are below it.
		{polys{{at(0, 0), at(256, 0), at(0, 256)}}, 1, one, []byte{6}},
		{polys{{at(256, 0), at(256, 256), at(0, 256)}}, 1, one, []byte{10}},
		{polys{{at(0, 0), at(256, 256), at(0, 256)}}, 1, one, []byte{6}},
		{polys{{at(0, 0), at(256, 0), at(256, 256)}}, 1, one, []byte{10}},
		// Row by row from the top, each from the left.
		{polys{rect(128, 0, 400, 256)}, 1, box(-1, 0, 3, 1), []byte{0, 8, 8, 0}},
		{polys{rect(0, 0, 256, 64), rect(256, 0, 512, 128), rect(0, 256, 64, 512), rect(256, 256, 288, 512), rect(500, 500, 512, 512)}, 1,
			box(0, 0, 2, 3), []byte{4, 8, 4, 0, 0, 0}},
		{polys{rect(-512, -256, -192, 0)}, 1, box(-2, -2, 0, 1), []byte{0, 0, 16, 4, 0, 0}},
		{polys{rect(256, 256, 512, 512)}, 1, box(0, 0, 3, 3), []byte{0, 0, 0, 0, 16, 0, 0, 0, 0}},
		// The window is somewhere else.
		{polys{whole}, 1, box(1, 0, 2, 1), []byte{0}},
		{polys{whole}, 1, box(-1, 0, 0, 1), []byte{0}},
		{polys{whole}, 1, box(0, 1, 1, 2), []byte{0}},
		{polys{whole}, 1, box(0, -1, 1, 0), []byte{0}},
		{polys{whole}, 1, box(edge-2, edge-1, edge, edge), []byte{0, 0}},
		// Room's ends: their bounds are out of room, the polygons aren't.
		{polys{rect(-far, -far, far, far)}, 1, box(-1, -1, 1, 1), []byte{16, 16, 16, 16}},
		{polys{rect(0, 0, far, far)}, 2, box(-1, -1, 1, 1), []byte{0, 0, 0, 16}},
		{polys{rect(-far, -far, 0, 0)}, 2, box(-1, -1, 1, 1), []byte{16, 0, 0, 0}},
		{polys{rect(-far, -far, far, far)}, 1, box(edge-1, edge-1, edge, edge), []byte{16}},
		{polys{rect(-far, -far, far, far)}, 1, box(-edge, -edge, 1-edge, 1-edge), []byte{16}},
		{polys{{at(-far, -far), at(far, far), at(-far, far)}}, 1, box(edge-2, edge-2, edge, edge), []byte{6, 0, 16, 6}},
		{polys{{at(-far, -far), at(far, far), at(-far, far)}}, 1, box(-edge, -edge, 2-edge, 2-edge), []byte{6, 0, 16, 6}},
	} {
		checkMask(t, c.l, c.rule, c.w, c.want, api.OK)
	}
}

// P8.2: the samples lie where the document says, and nowhere else.
func TestSamples(t *testing.T) {
	for _, pixel := range []geom.Point{at(0, 0), at(-1, 0), at(5, -7), at(edge-1, -edge), at(-edge, edge-1)} {
		w := box(pixel.X, pixel.Y, pixel.X+1, pixel.Y+1)
		x, y := 256*pixel.X, 256*pixel.Y
		eachSample(pixel.X, pixel.Y, func(s geom.Point) {
			for dx := -1; dx <= 1; dx++ {
				for dy := -1; dy <= 1; dy++ {
					p := at(s.X+dx, s.Y+dy)
					want := byte(0)
					if p == s {
						want = 1
					}
					checkMask(t, polys{rect(p.X, p.Y, p.X+1, p.Y+1)}, 1, w, []byte{want}, api.OK)
				}
			}
		})
		for n := range 257 {
			// So many samples of a line are below n.
			many := byte((n + 31) / 64)
			checkMask(t, polys{rect(x, y, x+n, y+256)}, 1, w, []byte{4 * many}, api.OK)
			checkMask(t, polys{rect(x+n, y, x+256, y+256)}, 1, w, []byte{16 - 4*many}, api.OK)
			checkMask(t, polys{rect(x, y, x+256, y+n)}, 2, w, []byte{4 * many}, api.OK)
			checkMask(t, polys{rect(x, y+n, x+256, y+256)}, 2, w, []byte{16 - 4*many}, api.OK)
		}
	}
}

// P8.2: masks of polygons about a window, with points anywhere.
func TestMask(t *testing.T) {
	next := stepper()
	for i := range 6000 {
		w := box(next(3), next(3), 0, 0)
		w.X1, w.Y1 = w.X0+1+from0(next, 4), w.Y0+1+from0(next, 4)
		checkBySamples(t, anyPolys(next, 7+i%8, at(256*w.X0+300, 256*w.Y0+300)), w)
	}
}

// P8.2: masks of polygons whose points are samples, so that edges go through others, and along rows.
func TestMaskThroughSamples(t *testing.T) {
	next := stepper()
	for i := range 6000 {
		l := anyPolys(next, 3+i%3, at(0, 0))
		for _, poly := range l {
			for k, p := range poly {
				poly[k] = at(64*p.X+32, 64*p.Y+32)
			}
		}
		checkBySamples(t, l, box(-2, -2, 2, 2))
	}
}

// stay tells d, or what is left of it so that n less d, and n and d, are in room.
func stay(n, d int) int {
	gap := far - max(n, -n)
	return min(max(d, -gap), gap)
}

// P8.2: masks of polygons with edges from one end of room to the other, in windows at the ends of where they may be.
func TestMaskFar(t *testing.T) {
	next := stepper()
	ends := []int{-edge, 2 - edge, -1, edge - 2}
	for i := range 4000 {
		w := box(ends[from0(next, 4)], ends[from0(next, 4)], 0, 0)
		w.X1, w.Y1 = w.X0+2, w.Y0+2
		l := anyPolys(next, 32, at(0, 0))
		if i%2 == 0 && len(l) > 0 {
			// One edge at least goes through the window.
			x, y := 256*w.X0+next(9), 256*w.Y0+next(9)
			dx, dy := stay(x, next(32)), stay(y, next(32))
			l[0] = append(l[0], at(x-dx, y-dy), at(x+dx, y+dy))
		}
		checkBySamples(t, l, w)
	}
}

// P8.2: polygons side by side cover each sample once, however their edges lie.
func TestSideBySide(t *testing.T) {
	next := stepper()
	w := box(-1, -1, 2, 2)
	for range 4000 {
		c := at(next(9), next(9))
		round := points{at(-600, -600), at(next(9), -600), at(900, -600), at(900, next(9)), at(900, 900), at(next(9), 900), at(-600, 900)}
		sum := make([]byte, 9)
		for i, p := range round {
			m, e := cover.Mask(polys{{c, p, round[(i+1)%len(round)]}}, 1, w)
			if e != api.OK || len(m) != 9 {
				t.Fatalf("Mask: %v, %d", m, e)
			}
			for k, n := range m {
				sum[k] += n
			}
		}
		if !slices.Equal(sum, slices.Repeat([]byte{16}, 9)) {
			t.Errorf("round %v: %v", c, sum)
		}
	}
}

// P8.2: the greatest windows, wherever they are, sample by sample; and those that are as wide, or as high.
func TestGreatWindows(t *testing.T) {
	for _, c := range []geom.Point{at(0, 0), at(-128, -200), at(edge-256, -edge), at(-edge, edge-256)} {
		x, y := 256*c.X, 256*c.Y
		l := polys{
			{at(x+5, y-9), at(x+65531, y+40000), at(x+777, y+65000), at(x+50000, y+100), at(x-3000, y+33333)},
			rect(x+1000, y+2000, x+60000, y+50000),
		}
		for _, w := range []geom.Box{
			box(c.X, c.Y, c.X+256, c.Y+256), box(c.X, c.Y+100, c.X+256, c.Y+101), box(c.X+100, c.Y, c.X+101, c.Y+256),
		} {
			for rule := 1; rule <= 2; rule++ {
				want := wantMask(w, func(s geom.Point) bool { return cover.Inside(l, rule, s) })
				if got, e := cover.Mask(l, rule, w); e != api.OK || !slices.Equal(got, want) {
					t.Errorf("Mask of %v by %d differs; %d", w, rule, e)
				}
			}
		}
	}
}

// P8.2: a great window is soon gone through, also with thousands of edges; each pixel that is looked at is right.
func TestManyEdges(t *testing.T) {
	next := stepper()
	l := make(polys, 2)
	for i := range 1 << 13 {
		l[i%2] = append(l[i%2], at(next(17), next(17)))
	}
	m, e := cover.Mask(l, 2, box(-128, -128, 128, 128))
	if e != api.OK || len(m) != 1<<16 {
		t.Fatalf("Mask: %d bytes, %d", len(m), e)
	}
	for range 64 {
		k := from0(next, 1<<16)
		x, y := k%256-128, k/256-128
		want := wantMask(box(x, y, x+1, y+1), func(s geom.Point) bool { return cover.Inside(l, 2, s) })
		if m[k] != want[0] {
			t.Errorf("pixel (%d, %d): %d, not %d", x, y, m[k], want[0])
		}
	}
}

// P8.2: a mask of a part of a window is that part of its mask.
func TestParts(t *testing.T) {
	next := stepper()
	for range 1000 {
		l := anyPolys(next, 12, at(0, 0))
		w := box(-6, -5, 7, 6)
		rule := 1 + from0(next, 2)
		whole, _ := cover.Mask(l, rule, w)
		p := box(w.X0+from0(next, 13), w.Y0+from0(next, 11), 0, 0)
		p.X1, p.Y1 = p.X0+1+from0(next, w.X1-p.X0), p.Y0+1+from0(next, w.Y1-p.Y0)
		var want []byte
		for y := p.Y0; y < p.Y1; y++ {
			row := (y - w.Y0) * 13
			want = append(want, whole[row+p.X0-w.X0:row+p.X1-w.X0]...)
		}
		checkMask(t, l, rule, p, want, api.OK)
	}
}

// P8.2: windows that may just be, and those that may just not.
func TestWindows(t *testing.T) {
	for _, c := range []struct {
		w     geom.Box
		right bool
	}{
		{box(0, 0, 1, 1), true},
		{box(-5, 9, 251, 10), true}, {box(-5, 9, 252, 10), false},
		{box(-5, 9, -4, 265), true}, {box(-5, 9, -4, 266), false},
		{box(0, 0, 256, 256), true}, {box(0, 0, 257, 257), false},
		{box(-edge, 0, 1-edge, 1), true}, {box(-edge-1, 0, -edge, 1), false},
		{box(0, -edge, 1, 1-edge), true}, {box(0, -edge-1, 1, -edge), false},
		{box(edge-1, 0, edge, 1), true}, {box(edge, 0, edge+1, 1), false},
		{box(0, edge-1, 1, edge), true}, {box(0, edge, 1, edge+1), false},
		{box(edge-256, edge-256, edge, edge), true}, {box(edge-255, 0, edge+1, 1), false},
		{box(-edge, -edge, edge, edge), false},
		{geom.Box{}, false},
		{box(1, 0, 1, 5), false}, {box(0, 1, 5, 1), false},
		{box(2, 0, 1, 5), false}, {box(0, 2, 5, 1), false}, {box(2, 2, 1, 1), false},
		// Differences that wrap.
		{box(least, 0, most, 1), false}, {box(0, least, 1, most), false},
		{box(least, 0, least+1, 1), false}, {box(most-1, 0, most, 1), false},
		{box(0, most-1, 1, most), false}, {box(-2, 0, most, 1), false}, {box(most, 0, least, 1), false},
	} {
		var want []byte
		e := api.ErrRange
		if c.right {
			want, e = make([]byte, (c.w.X1-c.w.X0)*(c.w.Y1-c.w.Y0)), api.OK
		}
		checkMask(t, nil, 1, c.w, want, e)
		checkMask(t, nil, 2, c.w, want, e)
	}
}

// P8.2: rules that are none are refused, and points that are not in room, wherever they stand.
func TestMaskRefuses(t *testing.T) {
	one := box(0, 0, 1, 1)
	sq := rect(0, 0, 256, 256)
	for _, rule := range []int{0, 3, -1, -2, 257, 1<<32 + 1, least, least + 1, most} {
		checkMask(t, nil, rule, one, nil, api.ErrRange)
		checkMask(t, polys{sq}, rule, one, nil, api.ErrRange)
	}
	for _, n := range []int{far + 1, -far - 1, 1 << 32, least, most} {
		for _, p := range []geom.Point{at(n, 0), at(0, n), at(n, n)} {
			for k := range 5 {
				wrong := slices.Insert(slices.Clone(sq), k, p)
				checkMask(t, polys{wrong}, 1, one, nil, api.ErrRange)
				checkMask(t, polys{sq, nil, wrong}, 2, one, nil, api.ErrRange)
				checkMask(t, polys{wrong, sq}, 1, box(90, 90, 91, 91), nil, api.ErrRange)
			}
			checkMask(t, polys{{p}}, 1, one, nil, api.ErrRange)
		}
	}
	for _, p := range []geom.Point{at(far, 0), at(0, far), at(-far, -far)} {
		checkMask(t, polys{{p}}, 1, one, []byte{0}, api.OK)
	}
}

// P8.2: Area is the sum, of any bytes.
func TestArea(t *testing.T) {
	for _, c := range []struct {
		mask []byte
		want int
	}{
		{nil, 0}, {[]byte{}, 0}, {[]byte{0}, 0}, {[]byte{16}, 16}, {[]byte{3, 16}, 19}, {[]byte{255, 255, 17}, 527},
		{slices.Repeat([]byte{16}, 65536), 1048576}, {slices.Repeat([]byte{255}, 1<<20), 255 << 20},
	} {
		if got := cover.Area(c.mask); got != c.want {
			t.Errorf("Area of %d bytes: %d, not %d", len(c.mask), got, c.want)
		}
	}
	m, _ := cover.Mask(polys{rect(32, 32, 1000, 999)}, 1, box(-3, -3, 9, 9))
	// Sixteen samples each way, from 32 up to 992.
	if got := cover.Area(m); got != 16*16 {
		t.Errorf("Area: %d", got)
	}
}

// P8.3: boxes of pixels, worked out by hand.
func TestPixelsByHand(t *testing.T) {
	for _, c := range []struct{ b, want geom.Box }{
		{box(-1, 0, 256, 257), box(-1, 0, 1, 2)},
		{box(0, 0, 1, 1), box(0, 0, 1, 1)},
		{box(0, 0, 256, 256), box(0, 0, 1, 1)},
		{box(255, 255, 256, 256), box(0, 0, 1, 1)},
		{box(255, 255, 257, 257), box(0, 0, 2, 2)},
		{box(256, 256, 257, 257), box(1, 1, 2, 2)},
		{box(-256, -256, 0, 0), box(-1, -1, 0, 0)},
		{box(-257, -513, -256, -255), box(-2, -3, -1, 0)},
		{box(-1, -1, 1, 1), box(-1, -1, 1, 1)},
		{box(-3, 700, 5, 900), box(-1, 2, 1, 4)},
		{box(-far, -far, far, far), box(-1<<23, -1<<23, 1<<23, 1<<23)},
		{box(1-far, far-1, 2-far, far), box(-1<<23, 1<<23-1, 1-1<<23, 1<<23)},
		// Empty ones.
		{geom.Box{}, geom.Box{}},
		{box(300, 300, 300, 900), geom.Box{}}, {box(300, 300, 900, 300), geom.Box{}},
		{box(301, 300, 300, 900), geom.Box{}}, {box(300, 301, 900, 300), geom.Box{}},
		{box(900, 900, 300, 300), geom.Box{}}, {box(most, most, least, least), geom.Box{}},
		// Numbers that are not in room.
		{box(-far-1, 0, 1, 1), geom.Box{}}, {box(0, -far-1, 1, 1), geom.Box{}},
		{box(0, 0, far+1, 1), geom.Box{}}, {box(0, 0, 1, far+1), geom.Box{}},
		{box(far, 0, far+1, 1), geom.Box{}}, {box(least, least, most, most), geom.Box{}},
		{box(least, 0, 1, 1), geom.Box{}}, {box(0, 0, 1, most), geom.Box{}},
	} {
		if got := cover.Pixels(c.b); got != c.want {
			t.Errorf("Pixels(%v): %v, not %v", c.b, got, c.want)
		}
	}
}

// P8.3: the least box that has all points: its sides' pixels have points, and none lies outside.
func TestPixels(t *testing.T) {
	next := stepper()
	pixel := func(n int) int { return int(math.Floor(float64(n) / 256)) }
	for i := range 40000 {
		bits := 2 + i%31
		b := box(next(bits), next(bits), next(bits), next(bits))
		want := geom.Box{}
		if b.X0 < b.X1 && b.Y0 < b.Y1 {
			want = box(pixel(b.X0), pixel(b.Y0), pixel(b.X1-1)+1, pixel(b.Y1-1)+1)
		}
		if got := cover.Pixels(b); got != want {
			t.Errorf("Pixels(%v): %v, not %v", b, got, want)
		}
	}
}

// P8.3: what lies outside of Pixels of the bound is not covered.
func TestOutsideOfPixels(t *testing.T) {
	next := stepper()
	w := box(-20, -20, 20, 20)
	for i := range 2000 {
		l := anyPolys(next, 4+i%9, at(next(10), next(10)))
		b := cover.Pixels(geom.Bound(slices.Concat(l...)...))
		for rule := 1; rule <= 2; rule++ {
			m, _ := cover.Mask(l, rule, w)
			for k, n := range m {
				if p := at(w.X0+k%40, w.Y0+k/40); n > 0 && !b.Has(p) {
					t.Errorf("%v covers %v, which is not in %v", l, p, b)
				}
			}
		}
	}
}

// P8.4: what is handed in stays, its spare room too.
func TestHandedInStays(t *testing.T) {
	full := points{at(0, 0), at(700, 0), at(90, 900), at(-70, 40), at(5, 5), at(-7, -7)}
	kept := slices.Clone(full)
	lists := polys{full[:3], full[1:5], full[:0], full[2:]}
	bytes := []byte{1, 2, 3, 4}
	for n := range len(lists) + 1 {
		for rule := range 4 {
			cover.Mask(lists[:n], rule, box(-1, -1, 4, 4))
			cover.Mask(lists[:n], rule, geom.Box{})
			cover.Inside(lists[:n], rule, at(50, 50))
		}
		cover.Area(bytes[:n])
	}
	if !slices.Equal(full, kept) || !slices.Equal(bytes, []byte{1, 2, 3, 4}) {
		t.Errorf("what was handed in is now %v, %v", full, bytes)
	}
	for i, want := range [][]geom.Point{full[:3], full[1:5], full[:0], full[2:]} {
		if len(lists[i]) != len(want) || cap(lists[i]) != cap(want) {
			t.Errorf("list %d that was handed in is now %v", i, lists[i])
		}
	}
}

// P8.4: what is told is new memory, its spare room too, and nothing of it or of what was handed in is kept.
func TestToldIsNew(t *testing.T) {
	sq := rect(0, 0, 400, 256)
	w := box(0, 0, 3, 1)
	want := []byte{16, 8, 0}
	for _, l := range []polys{{sq}, nil} {
		if l == nil {
			want = []byte{0, 0, 0}
		}
		a, _ := cover.Mask(l, 1, w)
		b, _ := cover.Mask(l, 1, w)
		for i := range cap(a) {
			a[:cap(a)][i] = 99
		}
		if !slices.Equal(b, want) {
			t.Errorf("two answers share memory: %v", b)
		}
		checkMask(t, l, 1, w, want, api.OK)
	}
	told, _ := cover.Mask(polys{sq}, 1, w)
	clear(sq)
	if !slices.Equal(told, []byte{16, 8, 0}) {
		t.Errorf("what was told has changed: %v", told)
	}
	checkMask(t, polys{sq}, 1, w, []byte{0, 0, 0}, api.OK)
}

// P1: every call ends, and none panics, whatever it is handed.
func TestWild(t *testing.T) {
	wild := []int{least, least + 1, -far - 1, -far, -edge - 1, -edge, -1, 0, 1, 2, 256, edge, far, far + 1, most - 1, most}
	for _, x := range wild {
		for _, y := range wild {
			for _, z := range wild {
				l := polys{{at(x, y), at(y, z), at(z, x)}, {at(z, z)}, nil}
				cover.Inside(l, z, at(y, x))
				cover.Inside(l, 1, at(y, z))
				cover.Inside(l, 2, at(0, 0))
				cover.Mask(l, 1, box(x, y, z, z))
				cover.Mask(l, 2, box(x, y, x+1, y+1))
				cover.Mask(l, z, box(-1, -1, 1, 1))
				cover.Mask(l, 1, box(-1, -1, 1, 1))
				cover.Pixels(box(x, y, z, x))
				cover.Pixels(box(x, x, y, z))
			}
		}
	}
}
