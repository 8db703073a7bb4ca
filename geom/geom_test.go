package geom_test

import (
	"math"
	"math/big"
	"slices"
	"testing"

	"limner/api"
	"limner/geom"
)

// far is the last number in room.
const far = api.MaxCoord

func at(x, y int) geom.Point { return geom.Point{X: x, Y: y} }

// stepper tells numbers that look like chance, the same in every run: from -2^(bits-1) up to 2^(bits-1) - 1.
func stepper() func(bits int) int {
	state := uint64(0x9e3779b97f4a7c15)
	return func(bits int) int {
		state ^= state << 13
		state ^= state >> 7
		state ^= state << 17
		return int(int64(state) >> (64 - bits))
	}
}

// grid is every point with both numbers from lo to hi.
func grid(lo, hi int) []geom.Point {
	var l []geom.Point
	for x := lo; x <= hi; x++ {
		for y := lo; y <= hi; y++ {
			l = append(l, at(x, y))
		}
	}
	return l
}

// points are all points with numbers out of l.
func points(l ...int) []geom.Point {
	var ps []geom.Point
	for _, x := range l {
		for _, y := range l {
			ps = append(ps, at(x, y))
		}
	}
	return ps
}

// wild are ints out of room, the ends among them, and 0.
func wild() []int {
	return []int{0, far + 1, -far - 1, math.MaxInt, math.MinInt, math.MaxInt - 1, math.MinInt + 1}
}

// less is p less q, exactly.
func less(p, q int) *big.Int { return new(big.Int).Sub(big.NewInt(int64(p)), big.NewInt(int64(q))) }

// cross is the cross product of the ways from a to b and from c to d, exactly.
func cross(a, b, c, d geom.Point) *big.Int {
	l := new(big.Int).Mul(less(b.X, a.X), less(d.Y, c.Y))
	return l.Sub(l, new(big.Int).Mul(less(b.Y, a.Y), less(d.X, c.X)))
}

// dot is the dot product of the ways from a to b and from c to d, exactly.
func dot(a, b, c, d geom.Point) *big.Int {
	l := new(big.Int).Mul(less(b.X, a.X), less(d.X, c.X))
	return l.Add(l, new(big.Int).Mul(less(b.Y, a.Y), less(d.Y, c.Y)))
}

// P3.1: a point is in room, if both its numbers are.
func TestIn(t *testing.T) {
	numbers := []struct {
		n  int
		in bool
	}{
		{0, true}, {1, true}, {-1, true}, {far - 1, true}, {far, true}, {-far, true}, {1 - far, true},
		{far + 1, false}, {-far - 1, false}, {1 << 32, false}, {-1 << 32, false}, {math.MaxInt, false}, {math.MinInt, false},
	}
	for _, x := range numbers {
		for _, y := range numbers {
			if got := at(x.n, y.n).In(); got != (x.in && y.in) {
				t.Errorf("(%d, %d).In: %t", x.n, y.n, got)
			}
		}
	}
}

// P3.1: Side of chosen points.
func TestSideByHand(t *testing.T) {
	for _, c := range []struct {
		a, b, c geom.Point
		want    int
	}{
		{at(0, 0), at(2, 0), at(1, 1), 1},
		{at(0, 0), at(2, 0), at(1, -1), -1},
		{at(0, 0), at(2, 0), at(1, 0), 0},
		{at(0, 0), at(2, 0), at(9, 0), 0},
		{at(0, 0), at(2, 0), at(-9, 0), 0},
		{at(2, 0), at(0, 0), at(1, 1), -1},
		{at(0, 0), at(0, 2), at(1, 1), -1},
		{at(0, 0), at(0, 2), at(-1, 1), 1},
		{at(5, 7), at(5, 7), at(1, 1), 0},
		{at(5, 7), at(5, 7), at(5, 7), 0},
		{at(5, 7), at(6, 9), at(5, 7), 0},
		{at(5, 7), at(6, 9), at(6, 9), 0},
		{at(5, 7), at(6, 9), at(7, 11), 0},
		{at(5, 7), at(6, 9), at(7, 12), 1},
		// Products that pass an int, and differ by little.
		{at(-far, -far), at(far, far), at(far-1, far-1), 0},
		{at(-far, -far), at(far, far), at(far, far-1), -1},
		{at(-far, -far), at(far, far), at(far-1, far), 1},
		{at(-far, far), at(far, -far), at(-far, -far), -1},
		{at(-far, far), at(far, -far), at(far, far), 1},
		{at(-far, -far), at(far, far-1), at(far-1, far-2), -1},
		{at(-far, -far), at(-far, far), at(far, -far), -1},
		{at(far, far), at(-far, -far), at(-far, far), -1},
	} {
		if got := geom.Side(c.a, c.b, c.c); got != c.want {
			t.Errorf("Side(%v, %v, %v): %d; want %d", c.a, c.b, c.c, got, c.want)
		}
	}
}

func checkSide(t *testing.T, a, b, c geom.Point) {
	t.Helper()
	if got, want := geom.Side(a, b, c), cross(a, b, a, c).Sign(); got != want {
		t.Errorf("Side(%v, %v, %v): %d; want %d", a, b, c, got, want)
	}
}

// P3.1: Side of small points, of points at the ends of room, and of points of all sizes, against exact numbers.
func TestSide(t *testing.T) {
	for _, l := range [][]geom.Point{grid(-2, 2), points(-far, 1-far, 0, far-1, far)} {
		for _, a := range l {
			for _, b := range l {
				for _, c := range l {
					checkSide(t, a, b, c)
				}
			}
		}
	}
	next := stepper()
	for i := range 40000 {
		bits := 2 + i%31
		a, b := at(next(bits), next(bits)), at(next(bits), next(32))
		checkSide(t, a, b, at(next(bits), next(bits)))
		// The middle, or what lies next to it, has a side that is near 0.
		checkSide(t, a, b, at((a.X+b.X)/2, (a.Y+b.Y)/2))
	}
}

// wantWinds is how often the polygon goes round s: its edges that go down to the right of s, less those
// that go up there, as a line from s to the right meets them. An edge has its upper end and not its lower one.
func wantWinds(poly []geom.Point, s geom.Point) int {
	n := 0
	for i, p := range poly {
		q, way := poly[(i+1)%len(poly)], 1
		if q.Y < p.Y {
			p, q, way = q, p, -1
		}
		if s.Y < p.Y || q.Y <= s.Y {
			continue
		}
		// From p on the edge goes along by (q.X - p.X) / (q.Y - p.Y) for each step down.
		x := new(big.Rat).SetFrac(less(q.X, p.X), less(q.Y, p.Y))
		x.Mul(x, new(big.Rat).SetInt(less(s.Y, p.Y)))
		x.Add(x, new(big.Rat).SetInt64(int64(p.X)))
		if x.Cmp(new(big.Rat).SetInt64(int64(s.X))) > 0 {
			n += way
		}
	}
	return n
}

// P3.1: Winds of chosen polygons.
func TestWindsByHand(t *testing.T) {
	square := []geom.Point{at(0, 0), at(2, 0), at(2, 2), at(0, 2)}
	other := []geom.Point{at(0, 2), at(2, 2), at(2, 0), at(0, 0)}
	eight := []geom.Point{at(0, 0), at(4, 4), at(4, 0), at(0, 4)}
	star := []geom.Point{at(0, -10), at(6, 8), at(-10, -3), at(10, -3), at(-6, 8)}
	all := []geom.Point{at(-far, -far), at(far, -far), at(far, far), at(-far, far)}
	for _, c := range []struct {
		name string
		poly []geom.Point
		s    geom.Point
		want int
	}{
		{"none", nil, at(0, 0), 0},
		{"empty", []geom.Point{}, at(0, 0), 0},
		{"a point", square[:1], at(0, 0), 0},
		{"there and back", square[:2], at(1, 0), 0},
		{"up and down", []geom.Point{at(2, 0), at(2, 2)}, at(1, 1), 0},
		{"middle", square, at(1, 1), 1},
		{"corner up left", square, at(0, 0), 1},
		{"left edge", square, at(0, 1), 1},
		{"upper edge", square, at(1, 0), 1},
		{"right edge", square, at(2, 1), 0},
		{"lower edge", square, at(1, 2), 0},
		{"corner up right", square, at(2, 0), 0},
		{"corner down left", square, at(0, 2), 0},
		{"corner down right", square, at(2, 2), 0},
		{"left of it", square, at(-1, 1), 0},
		{"right of it", square, at(3, 1), 0},
		{"above it", square, at(1, -1), 0},
		{"below it", square, at(1, 3), 0},
		{"the other way round", other, at(1, 1), -1},
		{"the other way round, left edge", other, at(0, 1), -1},
		{"the other way round, right edge", other, at(2, 1), 0},
		{"twice", append(slices.Clone(square), square...), at(1, 1), 2},
		{"there and round again", append(slices.Clone(square), other...), at(1, 1), 0},
		{"eight, right", eight, at(3, 2), -1},
		{"eight, left", eight, at(1, 2), 1},
		{"star, middle", star, at(0, 0), 2},
		{"star, upper point", star, at(0, -8), 1},
		{"star, between", star, at(0, 7), 0},
		{"all of room", all, at(0, 0), 1},
		{"all of room, corner up left", all, at(-far, -far), 1},
		{"all of room, last", all, at(far-1, far-1), 1},
		{"all of room, right edge", all, at(far, 0), 0},
	} {
		if got := geom.Winds(c.poly, c.s); got != c.want {
			t.Errorf("%s: Winds(%v, %v): %d; want %d", c.name, c.poly, c.s, got, c.want)
		}
	}
}

// P3.1: Winds of every small triangle, and of polygons of all sizes, against exact numbers.
func TestWinds(t *testing.T) {
	check := func(poly []geom.Point, s geom.Point) {
		t.Helper()
		if got, want := geom.Winds(poly, s), wantWinds(poly, s); got != want {
			t.Errorf("Winds(%v, %v): %d; want %d", poly, s, got, want)
		}
	}
	small := grid(0, 2)
	for _, a := range small {
		for _, b := range small {
			for _, c := range small {
				for _, s := range small {
					check([]geom.Point{a, b, c}, s)
				}
			}
		}
	}
	next := stepper()
	for i := range 4000 {
		bits := 2 + i%31
		poly := make([]geom.Point, i%12)
		for j := range poly {
			poly[j] = at(next(bits), next(bits))
		}
		for range 5 {
			check(poly, at(next(bits), next(bits)))
		}
		for _, p := range poly {
			check(poly, p)
		}
	}
}

// P3.1: the polygon and its spare room stay what they were.
func TestPolygonStays(t *testing.T) {
	room := []geom.Point{at(0, 0), at(2, 0), at(2, 2), at(0, 2), at(7, 7)}
	was := slices.Clone(room)
	geom.Winds(room[:4], at(1, 1))
	geom.Bound(room[:4]...)
	if !slices.Equal(room, was) {
		t.Errorf("%v; was %v", room, was)
	}
}

// between tells whether n is from 0 to whole, or from whole to 0.
func between(n, whole *big.Int) bool {
	return n.Sign() == 0 || n.Sign() == whole.Sign() && n.CmpAbs(whole) <= 0
}

// wantMeets solves a + t(b - a) = c + u(d - c), exactly.
func wantMeets(a, b, c, d geom.Point) bool {
	if whole := cross(a, b, c, d); whole.Sign() != 0 {
		return between(cross(a, c, c, d), whole) && between(cross(a, c, a, b), whole)
	}
	if a == b {
		a, b, c, d = c, d, a, b
	}
	if a == b {
		return a == c
	}
	// The ways are even: a common point is c or d on the first stretch, or a on the second one.
	on := func(p geom.Point) bool {
		return cross(a, b, a, p).Sign() == 0 && between(dot(a, b, a, p), dot(a, b, a, b))
	}
	return on(c) || on(d) || cross(a, b, a, c).Sign() == 0 && dot(a, b, a, c).Sign() != dot(a, b, a, d).Sign()
}

func checkMeets(t *testing.T, a, b, c, d geom.Point) {
	t.Helper()
	want := wantMeets(a, b, c, d)
	for _, l := range [][4]geom.Point{{a, b, c, d}, {b, a, c, d}, {c, d, a, b}, {d, c, a, b}} {
		if got := geom.Meets(l[0], l[1], l[2], l[3]); got != want {
			t.Errorf("Meets%v: %t; want %t", l, got, want)
		}
	}
}

// P3.2: chosen stretches.
func TestMeetsByHand(t *testing.T) {
	for _, c := range []struct {
		name       string
		a, b, c, d geom.Point
		want       bool
	}{
		{"crossing", at(0, 0), at(4, 4), at(0, 4), at(4, 0), true},
		{"crossing between whole numbers", at(0, 0), at(1, 1), at(0, 1), at(1, 0), true},
		{"an end on the other", at(0, 0), at(4, 0), at(2, 0), at(2, 3), true},
		{"ends on each other", at(0, 0), at(4, 0), at(4, 0), at(9, 3), true},
		{"short of the other", at(0, 0), at(4, 0), at(2, 1), at(2, 3), false},
		{"short of it aslant, in its box", at(0, 0), at(9, 9), at(5, 0), at(5, 4), false},
		{"the other one beyond, boxes meeting", at(0, 0), at(4, 4), at(3, 5), at(5, 3), true},
		{"beyond by one", at(0, 0), at(4, 4), at(3, 6), at(6, 3), false},
		{"even", at(0, 0), at(4, 4), at(1, 0), at(5, 4), false},
		{"on one line, over each other", at(0, 0), at(4, 0), at(3, 0), at(9, 0), true},
		{"on one line, end to end", at(0, 0), at(4, 0), at(4, 0), at(9, 0), true},
		{"on one line, within", at(0, 0), at(9, 9), at(3, 3), at(4, 4), true},
		{"on one line, apart", at(0, 0), at(4, 0), at(5, 0), at(9, 0), false},
		{"on one line upright, apart", at(0, 0), at(0, 4), at(0, 5), at(0, 9), false},
		{"on one line aslant, apart", at(0, 0), at(4, -4), at(5, -5), at(9, -9), false},
		{"a point on it", at(1, 1), at(1, 1), at(0, 0), at(2, 2), true},
		{"a point at its end", at(2, 2), at(2, 2), at(0, 0), at(2, 2), true},
		{"a point beside it", at(1, 1), at(1, 1), at(0, 1), at(0, 2), false},
		{"a point in its box", at(1, 1), at(1, 1), at(0, 0), at(2, 3), false},
		{"a point ahead of it", at(3, 3), at(3, 3), at(0, 0), at(2, 2), false},
		{"the same point", at(1, 1), at(1, 1), at(1, 1), at(1, 1), true},
		{"two points", at(1, 1), at(1, 1), at(1, 2), at(1, 2), false},
		{"across all of room", at(-far, -far), at(far, far), at(-far, far), at(far, -far), true},
		{"side by side across all of room", at(-far, -far), at(far, far-1), at(-far, 1-far), at(far, far), false},
		{"end to end at the corner of room", at(-far, -far), at(far, far), at(far, far), at(far, -far), true},
		{"beside the corner of room", at(-far, -far), at(far, far), at(far, far-1), at(far, -far), false},
	} {
		if got := geom.Meets(c.a, c.b, c.c, c.d); got != c.want {
			t.Errorf("%s: Meets(%v, %v, %v, %v): %t; want %t", c.name, c.a, c.b, c.c, c.d, got, c.want)
		}
		checkMeets(t, c.a, c.b, c.c, c.d)
	}
}

// P3.2: every two stretches of a small grid, those at the ends of room, and those of all sizes, against exact numbers.
func TestMeets(t *testing.T) {
	for _, l := range [][]geom.Point{grid(0, 2), points(-far, 0, far)} {
		for _, a := range l {
			for _, b := range l {
				for _, c := range l {
					for _, d := range l {
						checkMeets(t, a, b, c, d)
					}
				}
			}
		}
	}
	next := stepper()
	for i := range 20000 {
		bits := 2 + i%31
		a, b, c, d := at(next(bits), next(bits)), at(next(bits), next(bits)), at(next(bits), next(bits)), at(next(bits), next(bits))
		checkMeets(t, a, b, c, d)
		// One that ends at, or next to, the middle of the other.
		middle := at((a.X+b.X)/2+next(2), (a.Y+b.Y)/2+next(2))
		if middle.In() {
			checkMeets(t, a, b, middle, d)
			checkMeets(t, a, middle, middle, b)
		}
	}
}

// boxes are all boxes with numbers from lo to hi, turned round and empty ones among them.
func boxes(lo, hi int) []geom.Box {
	var l []geom.Box
	for _, p := range grid(lo, hi) {
		for _, q := range grid(lo, hi) {
			l = append(l, geom.Box{X0: p.X, Y0: p.Y, X1: q.X, Y1: q.Y})
		}
	}
	return l
}

// least is the least box that has all points of a list.
func least(l []geom.Point) geom.Box {
	if len(l) == 0 {
		return geom.Box{}
	}
	var xs, ys []int
	for _, p := range l {
		xs, ys = append(xs, p.X), append(ys, p.Y)
	}
	return geom.Box{X0: slices.Min(xs), Y0: slices.Min(ys), X1: slices.Max(xs) + 1, Y1: slices.Max(ys) + 1}
}

// lie tells whether p lies in b, by the words of the document.
func lie(b geom.Box, p geom.Point) bool {
	if p.X < b.X0 || p.Y < b.Y0 {
		return false
	}
	return p.X < b.X1 && p.Y < b.Y1
}

// P3.3: Empty and Has, of all small boxes, point by point.
func TestEmptyAndHas(t *testing.T) {
	for _, b := range boxes(-1, 3) {
		n := 0
		for _, p := range grid(-2, 4) {
			if b.Has(p) != lie(b, p) {
				t.Errorf("%v.Has(%v): %t", b, p, b.Has(p))
			}
			if lie(b, p) {
				n++
			}
		}
		if b.Empty() != (n == 0) {
			t.Errorf("%v.Empty: %t; has %d points", b, b.Empty(), n)
		}
	}
}

// P3.3: Meet and Join, of every two small boxes, against the points that they have.
func TestMeetAndJoin(t *testing.T) {
	all, places := boxes(0, 3), grid(-1, 4)
	for _, b := range all {
		for _, o := range all {
			var both, either []geom.Point
			for _, p := range places {
				if lie(b, p) && lie(o, p) {
					both = append(both, p)
				}
				if lie(b, p) || lie(o, p) {
					either = append(either, p)
				}
			}
			if got, want := b.Meet(o), least(both); got != want {
				t.Errorf("%v.Meet(%v): %v; want %v", b, o, got, want)
			}
			if got, want := b.Join(o), least(either); got != want {
				t.Errorf("%v.Join(%v): %v; want %v", b, o, got, want)
			}
		}
	}
}

// P3.3: chosen boxes, those at the ends of ints among them.
func TestBoxesByHand(t *testing.T) {
	const lo, hi = math.MinInt, math.MaxInt
	all := geom.Box{X0: lo, Y0: lo, X1: hi, Y1: hi}
	none := geom.Box{X0: hi, Y0: hi, X1: lo, Y1: lo}
	flat := geom.Box{X0: lo, Y0: 3, X1: hi, Y1: 3}
	some := geom.Box{X0: -1, Y0: 2, X1: 5, Y1: 3}
	far1 := geom.Box{X0: lo, Y0: lo, X1: lo + 1, Y1: lo + 1}
	far2 := geom.Box{X0: hi - 1, Y0: hi - 1, X1: hi, Y1: hi}
	for _, c := range []struct {
		name      string
		got, want geom.Box
	}{
		{"Meet with all", some.Meet(all), some},
		{"all and Meet", all.Meet(some), some},
		{"Meet with none", some.Meet(none), geom.Box{}},
		{"Meet with flat", all.Meet(flat), geom.Box{}},
		{"flat and Meet", flat.Meet(all), geom.Box{}},
		{"Meet apart", far1.Meet(far2), geom.Box{}},
		{"Meet side by side", some.Meet(geom.Box{X0: 5, Y0: 2, X1: 6, Y1: 3}), geom.Box{}},
		{"Join with none", some.Join(none), some},
		{"none and Join", none.Join(some), some},
		{"Join with flat", some.Join(flat), some},
		{"flat and Join", flat.Join(some), some},
		{"none and flat", none.Join(flat), geom.Box{}},
		{"flat and flat", flat.Join(flat), geom.Box{}},
		{"Join at the ends", far1.Join(far2), all},
		{"Join with what it has", all.Join(some), all},
	} {
		if c.got != c.want {
			t.Errorf("%s: %v; want %v", c.name, c.got, c.want)
		}
	}
	if all.Empty() || !none.Empty() || !flat.Empty() || some.Empty() || far1.Empty() || far2.Empty() || !(geom.Box{}).Empty() {
		t.Errorf("Empty")
	}
	if !all.Has(at(lo, lo)) || !all.Has(at(hi-1, hi-1)) || all.Has(at(hi, 0)) || all.Has(at(0, hi)) || none.Has(at(0, 0)) || flat.Has(at(0, 3)) {
		t.Errorf("Has")
	}
}

// P3.3: Bound of chosen points, and of points of all sizes.
func TestBound(t *testing.T) {
	for _, c := range []struct {
		l    []geom.Point
		want geom.Box
	}{
		{nil, geom.Box{}},
		{[]geom.Point{}, geom.Box{}},
		{[]geom.Point{at(0, 0)}, geom.Box{X1: 1, Y1: 1}},
		{[]geom.Point{at(1, 1)}, geom.Box{X0: 1, Y0: 1, X1: 2, Y1: 2}},
		{[]geom.Point{at(1, 1), at(1, 1)}, geom.Box{X0: 1, Y0: 1, X1: 2, Y1: 2}},
		{[]geom.Point{at(3, -1), at(1, 4)}, geom.Box{X0: 1, Y0: -1, X1: 4, Y1: 5}},
		{[]geom.Point{at(-1, -1)}, geom.Box{X0: -1, Y0: -1}},
		{[]geom.Point{at(-5, 0), at(-3, 0), at(-4, 7)}, geom.Box{X0: -5, Y0: 0, X1: -2, Y1: 8}},
		{[]geom.Point{at(far, far)}, geom.Box{X0: far, Y0: far, X1: far + 1, Y1: far + 1}},
		{[]geom.Point{at(far, -far), at(-far, far)}, geom.Box{X0: -far, Y0: -far, X1: far + 1, Y1: far + 1}},
	} {
		if got := geom.Bound(c.l...); got != c.want {
			t.Errorf("Bound(%v): %v; want %v", c.l, got, c.want)
		}
	}
	next := stepper()
	for i := range 4000 {
		l := make([]geom.Point, i%20)
		for j := range l {
			l[j] = at(next(1+i%32), next(1+i%32))
		}
		if got, want := geom.Bound(l...), least(l); got != want {
			t.Errorf("Bound(%v): %v; want %v", l, got, want)
		}
	}
}

// P1: points out of room and boxes of any ints: each call ends, and none panics.
func TestWild(t *testing.T) {
	l := points(wild()...)
	for i, a := range l {
		a.In()
		for j, b := range l {
			c, d := l[(i+j)%len(l)], l[(i*j)%len(l)]
			if s := geom.Side(a, b, c); s < -1 || s > 1 {
				t.Errorf("Side(%v, %v, %v): %d", a, b, c, s)
			}
			geom.Winds([]geom.Point{a, b, c}, d)
			geom.Meets(a, b, c, d)
			geom.Bound(a, b, c, d)
			box := geom.Box{X0: a.X, Y0: a.Y, X1: b.X, Y1: b.Y}
			other := geom.Box{X0: c.X, Y0: c.Y, X1: d.X, Y1: d.Y}
			box.Has(c)
			if m := box.Meet(other); m.Empty() && m != (geom.Box{}) {
				t.Errorf("%v.Meet(%v): %v", box, other, m)
			}
			if m := box.Join(other); m.Empty() != (box.Empty() && other.Empty()) || m.Empty() && m != (geom.Box{}) {
				t.Errorf("%v.Join(%v): %v", box, other, m)
			}
		}
	}
}
