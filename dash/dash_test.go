package dash_test

import (
	"math"
	"math/big"
	"slices"
	"testing"

	"limner/api"
	"limner/dash"
	"limner/geom"
	"limner/path"
)

const (
	// far is the last number in room, long how far a line goes at most each way.
	far  = api.MaxCoord
	long = 1 << 29

	// lasts is the greatest length of a pattern.
	lasts = 1 << 20

	least, most = math.MinInt, math.MaxInt
)

type (
	points = []geom.Point
	subs   = []path.Sub
)

func at(x, y int) geom.Point { return geom.Point{X: x, Y: y} }

func open(l ...geom.Point) path.Sub { return path.Sub{L: l} }

func closed(l ...geom.Point) path.Sub { return path.Sub{L: l, Closed: true} }

func pattern(phase int, l ...int) dash.Pattern { return dash.Pattern{L: l, Phase: phase} }

// stepper tells numbers that look like chance, the same in every run: from -2^(bits-1) up to 2^(bits-1) - 1.
func stepper() func(bits int) int {
	state := uint64(0x9e3779b97f4a7c15)
	return func(bits int) int {
		state ^= state << 13
		state ^= state >> 7
		state ^= state << 17
		return int(int64(state) >> (64 - bits))
	}
}

// from0 tells such a number from 0 up to n - 1.
func from0(next func(bits int) int, n int) int { return (next(32) & math.MaxUint32) % n }

func sameSubs(a, b subs) bool {
	return slices.EqualFunc(a, b, func(p, q path.Sub) bool { return p.Closed == q.Closed && slices.Equal(p.L, q.L) })
}

func out(p geom.Point) bool { return p.X < -far || p.X > far || p.Y < -far || p.Y > far }

func tooFar(a, b geom.Point) bool {
	x, y := b.X-a.X, b.Y-a.Y
	return x < -536870912 || x > 536870912 || y < -536870912 || y > 536870912
}

// wantRight tells by the document's words whether p is right.
func wantRight(p dash.Pattern) bool {
	switch len(p.L) {
	case 0:
		return p.Phase == 0
	case 2, 4, 6, 8:
	default:
		return false
	}
	sum := 0
	for _, n := range p.L {
		if n < 1 || n > 1048576 {
			return false
		}
		sum += n
	}
	return p.Phase >= 0 && p.Phase < sum
}

// wantLength tells the length of a line that is not too long, in exact numbers.
func wantLength(a, b geom.Point) int {
	x, y := big.NewInt(int64(b.X-a.X)), big.NewInt(int64(b.Y-a.Y))
	sum := new(big.Int).Add(x.Mul(x, x), y.Mul(y, y))
	return int(sum.Sqrt(sum).Int64())
}

// wantPlace tells the place at t of a line, in exact numbers.
func wantPlace(a, b geom.Point, t int) geom.Point {
	n := big.NewInt(int64(wantLength(a, b)))
	part := func(from, to int) int {
		whole, rest := new(big.Int).Mul(big.NewInt(int64(t)), big.NewInt(int64(to-from))), new(big.Int)
		whole.DivMod(whole, n, rest)
		// What is left of the quotient below its whole part says which whole number is nearest.
		if rest.Lsh(rest, 1).Cmp(n) >= 0 {
			whole.Add(whole, big.NewInt(1))
		}
		return from + int(whole.Int64())
	}
	return at(part(a.X, b.X), part(a.Y, b.Y))
}

func wantWay(s path.Sub) (points, api.Errno) {
	if slices.ContainsFunc(s.L, out) {
		return nil, api.ErrRange
	}
	var l points
	for i, p := range s.L {
		if i == 0 || p != s.L[i-1] {
			l = append(l, p)
		}
	}
	if s.Closed && len(l) > 0 && l[len(l)-1] != l[0] {
		l = append(l, l[0])
	}
	for i := 1; i < len(l); i++ {
		if tooFar(l[i-1], l[i]) {
			return nil, api.ErrOverflow
		}
	}
	return l, api.OK
}

// measured is a way, with how far along it each of its points lies.
type measured struct {
	l  points
	at []int
}

func measure(l points) measured {
	m := measured{l: l}
	sum := 0
	for i, p := range l {
		if i > 0 {
			sum += wantLength(l[i-1], p)
		}
		m.at = append(m.at, sum)
	}
	return m
}

func (m measured) end() int { return m.at[len(m.at)-1] }

// place tells where t lies: on the last line that begins at or ahead of it.
func (m measured) place(t int) geom.Point {
	i := len(m.at) - 2
	for m.at[i] > t {
		i--
	}
	return wantPlace(m.l[i], m.l[i+1], t-m.at[i])
}

// piece tells what is drawn by a length from b to e.
func (m measured) piece(b, e int) points {
	l := points{m.l[0]}
	if b >= 0 {
		l = points{m.place(b)}
	}
	for i, p := range m.l {
		if m.at[i] > max(b, 0) && m.at[i] <= e {
			l = append(l, p)
		}
	}
	if e < m.end() {
		l = append(l, m.place(e))
	}
	return l
}

// wantDash tells the pieces by the document's words, length by length.
func wantDash(s path.Sub, p dash.Pattern) (subs, api.Errno) {
	if !wantRight(p) {
		return nil, api.ErrRange
	}
	way, e := wantWay(s)
	if e != api.OK || len(way) == 0 {
		return nil, e
	}
	if len(p.L) == 0 {
		return subs{s}, api.OK
	}
	var told subs
	m := measure(way)
	for i, b := 0, -p.Phase; b < max(m.end(), 1); i++ {
		end := b + p.L[i%len(p.L)]
		switch {
		case i%2 == 1 || end <= 0:
		case len(way) == 1:
			told = append(told, open(way[0]))
		default:
			told = append(told, open(m.piece(b, end)...))
		}
		if len(told) > 4096 {
			return nil, api.ErrMany
		}
		b = end
	}
	return told, api.OK
}

func checkLength(t *testing.T, a, b geom.Point, want int, wantE api.Errno) {
	t.Helper()
	if got, e := dash.Length(a, b); got != want || e != wantE {
		t.Errorf("Length(%v, %v): %d, %d; not %d, %d", a, b, got, e, want, wantE)
	}
}

func checkPlace(t *testing.T, a, b geom.Point, n int, want geom.Point, wantE api.Errno) {
	t.Helper()
	if got, e := dash.Place(a, b, n); got != want || e != wantE {
		t.Errorf("Place(%v, %v, %d): %v, %d; not %v, %d", a, b, n, got, e, want, wantE)
	}
}

func checkWay(t *testing.T, s path.Sub, want points, wantE api.Errno) {
	t.Helper()
	if got, e := dash.Way(s); e != wantE || !slices.Equal(got, want) {
		t.Errorf("Way(%v): %v, %d; not %v, %d", s, got, e, want, wantE)
	}
}

func checkDash(t *testing.T, s path.Sub, p dash.Pattern, want subs, wantE api.Errno) {
	t.Helper()
	if got, e := dash.Dash(s, p); e != wantE || !sameSubs(got, want) {
		t.Errorf("Dash(%v, %v): %v, %d; not %v, %d", s, p, got, e, want, wantE)
	}
}

// P9.1: what is right, and the sum of its lengths.
func TestRightPatterns(t *testing.T) {
	checks := []struct {
		p   dash.Pattern
		sum int
	}{
		{dash.Pattern{}, 0},
		{dash.Pattern{L: []int{}}, 0},
		{pattern(0, 1, 1), 2},
		{pattern(1, 1, 1), 2},
		{pattern(4, 3, 2), 5},
		{pattern(0, lasts, lasts), 2 * lasts},
		{pattern(2*lasts-1, lasts, lasts), 2 * lasts},
		{pattern(9, 1, 2, 3, 4), 10},
		{pattern(0, 6, 5, 4, 3, 2, 1), 21},
		{pattern(20, 6, 5, 4, 3, 2, 1), 21},
		{pattern(35, 1, 2, 3, 4, 5, 6, 7, 8), 36},
		{pattern(8*lasts-1, lasts, lasts, lasts, lasts, lasts, lasts, lasts, lasts), 8 * lasts},
	}
	for _, c := range checks {
		if e := c.p.Check(); e != api.OK {
			t.Errorf("Check of %v: %d", c.p, e)
		}
		if sum := c.p.Sum(); sum != c.sum {
			t.Errorf("Sum of %v: %d, not %d", c.p, sum, c.sum)
		}
	}
}

// wrongPatterns are such in one way each.
func wrongPatterns() []dash.Pattern {
	l := []dash.Pattern{
		{Phase: 1}, {Phase: -1}, {L: []int{}, Phase: 5}, {Phase: most}, {Phase: least},
		pattern(0, 1), pattern(0, 1, 2, 3), pattern(0, 1, 2, 3, 4, 5), pattern(0, 1, 2, 3, 4, 5, 6, 7),
		pattern(0, 1, 1, 1, 1, 1, 1, 1, 1, 1), pattern(0, 1, 1, 1, 1, 1, 1, 1, 1, 1, 1), pattern(0, make([]int, 12)...),
		pattern(-1, 3, 2), pattern(5, 3, 2), pattern(6, 3, 2), pattern(most, 3, 2), pattern(least, 3, 2),
		pattern(2*lasts, lasts, lasts), pattern(36, 1, 2, 3, 4, 5, 6, 7, 8), pattern(10, 1, 2, 3, 4),
	}
	for _, n := range []int{0, -1, lasts + 1, least, most, 1 << 32} {
		for i := range 4 {
			p := pattern(0, 7, 7, 7, 7)
			p.L[i] = n
			l = append(l, p)
		}
	}
	// Lengths that together wrap to what looks right.
	return append(l, pattern(0, most, most), pattern(0, least, least+9), pattern(3, most, most, 1, 9))
}

// P9.1: what is not right.
func TestWrongPatterns(t *testing.T) {
	for _, p := range wrongPatterns() {
		if e := p.Check(); e != api.ErrRange {
			t.Errorf("Check of %v: %d", p, e)
		}
	}
	next := stepper()
	right := 0
	for range 20000 {
		p := dash.Pattern{L: make([]int, from0(next, 11)), Phase: next(5)}
		for i := range p.L {
			p.L[i] = from0(next, 30)
		}
		want := api.ErrRange
		if wantRight(p) {
			want, right = api.OK, right+1
		}
		if e := p.Check(); e != want {
			t.Errorf("Check of %v: %d, not %d", p, e, want)
		}
	}
	if right < 1000 {
		t.Errorf("too few that are right: %d", right)
	}
}

// P9.1: lengths, worked out by hand: roots rounded down.
func TestLength(t *testing.T) {
	checks := []struct {
		a, b geom.Point
		want int
	}{
		{at(0, 0), at(3, -4), 5},
		{at(0, 0), at(0, 0), 0},
		{at(far, -far), at(far, -far), 0},
		{at(7, 7), at(8, 8), 1},
		{at(0, 0), at(2, 2), 2},
		{at(0, 0), at(-10, 10), 14},
		{at(10, 0), at(0, 0), 10},
		{at(0, -3), at(0, 9), 12},
		{at(0, 0), at(long, 0), long},
		{at(0, 0), at(0, -long), long},
		{at(-far, far), at(long-far, far-long), 759250124},
		{at(far, 5), at(far-long, 5), long},
		{at(long/2, -long/2), at(-long/2, long/2), 759250124},
	}
	for _, c := range checks {
		checkLength(t, c.a, c.b, c.want, api.OK)
		checkLength(t, c.b, c.a, c.want, api.OK)
	}
}

// P9.1: lengths by the document's words.
func TestLengthByWords(t *testing.T) {
	next := stepper()
	seen := map[api.Errno]int{}
	for i := range 40000 {
		bits := 2 + i%33
		a, b := at(next(bits), next(bits)), at(next(bits), next(bits))
		switch {
		case out(a) || out(b):
			checkLength(t, a, b, 0, api.ErrRange)
			seen[api.ErrRange]++
		case tooFar(a, b):
			checkLength(t, a, b, 0, api.ErrOverflow)
			seen[api.ErrOverflow]++
		default:
			checkLength(t, a, b, wantLength(a, b), api.OK)
			seen[api.OK]++
		}
	}
	for _, e := range []api.Errno{api.OK, api.ErrRange, api.ErrOverflow} {
		if seen[e] < 500 {
			t.Errorf("too few of one answer: %v", seen)
		}
	}
}

// tooLong are lines that go too far, on one way or on both.
func tooLong() []path.Sub {
	return subs{
		open(at(0, 0), at(long+1, 0)), open(at(0, 0), at(-long-1, 0)),
		open(at(0, 0), at(0, long+1)), open(at(0, 0), at(0, -long-1)),
		open(at(long, 9), at(-1, 9)), open(at(9, -long), at(8, 1)),
		open(at(-far, -far), at(far, far)), open(at(far, 0), at(-far, 0)),
		open(at(0, 0), at(1<<30, 0)), open(at(far, far), at(far-long-1, far)),
	}
}

// P9.1: lines that are too long, and points out of room, which come first.
func TestNoLength(t *testing.T) {
	for _, s := range tooLong() {
		checkLength(t, s.L[0], s.L[1], 0, api.ErrOverflow)
		checkPlace(t, s.L[0], s.L[1], 1, at(0, 0), api.ErrOverflow)
		checkPlace(t, s.L[0], s.L[1], -1, at(0, 0), api.ErrOverflow)
	}
	for _, n := range []int{far + 1, -far - 1, 1 << 40, least, most} {
		for _, p := range []geom.Point{at(n, 0), at(0, n), at(n, n)} {
			for _, q := range []geom.Point{at(0, 0), p, at(far, far), at(-n, n)} {
				checkLength(t, p, q, 0, api.ErrRange)
				checkLength(t, q, p, 0, api.ErrRange)
				checkPlace(t, p, q, 0, at(0, 0), api.ErrRange)
				checkPlace(t, q, p, 0, at(0, 0), api.ErrRange)
			}
		}
	}
}

// P9.1: places, worked out by hand: of two as near the greater one, on ways down, too.
func TestPlace(t *testing.T) {
	checks := []struct {
		a, b geom.Point
		t    int
		want geom.Point
	}{
		{at(0, 0), at(10, -10), 7, at(5, -5)},
		{at(0, 0), at(10, 0), 0, at(0, 0)},
		{at(0, 0), at(10, 0), 3, at(3, 0)},
		{at(0, 0), at(10, 0), 10, at(10, 0)},
		{at(5, 9), at(5, -1), 4, at(5, 5)},
		{at(-7, 100), at(23, 140), 20, at(5, 116)},
		// The length of (1,1) is 1.
		{at(0, 0), at(1, 1), 1, at(1, 1)},
		{at(0, 0), at(1, 1), 0, at(0, 0)},
		// The length of (8,3) is 8: half of it makes 1.5 of 3, and -1.5 of -3.
		{at(0, 0), at(8, 3), 4, at(4, 2)},
		{at(0, 0), at(8, -3), 4, at(4, -1)},
		{at(0, 0), at(3, 8), 4, at(2, 4)},
		{at(0, 0), at(-3, 8), 4, at(-1, 4)},
		{at(8, 3), at(0, 0), 4, at(4, 2)},
		{at(100, -100), at(92, -97), 4, at(96, -98)},
		// 1/7 of 2 is nothing yet, 2/7 of 2 is 1.
		{at(0, 0), at(2, 7), 1, at(0, 1)},
		{at(0, 0), at(2, 7), 2, at(1, 2)},
		{at(0, 0), at(-2, 7), 1, at(0, 1)},
		{at(0, 0), at(-2, 7), 2, at(-1, 2)},
		{at(0, 0), at(long, long), 759250124, at(long, long)},
		{at(0, 0), at(long, -long), 759250123, at(long-1, 1-long)},
		{at(far, far), at(far-long, far), long, at(far-long, far)},
		{at(-far, far), at(-far, far-long), 1, at(-far, far-1)},
	}
	for _, c := range checks {
		checkPlace(t, c.a, c.b, c.t, c.want, api.OK)
	}
}

// P9.1: all places of every small line, and none beside them.
func TestPlaceSmall(t *testing.T) {
	a := at(5, -3)
	for dx := -12; dx <= 12; dx++ {
		for dy := -12; dy <= 12; dy++ {
			b := at(a.X+dx, a.Y+dy)
			n := wantLength(a, b)
			for i := -2; i <= n+2; i++ {
				if i < 0 || i > n || n == 0 {
					checkPlace(t, a, b, i, at(0, 0), api.ErrRange)
					continue
				}
				checkPlace(t, a, b, i, wantPlace(a, b, i), api.OK)
			}
			checkPlace(t, a, b, least, at(0, 0), api.ErrRange)
			checkPlace(t, a, b, most, at(0, 0), api.ErrRange)
		}
	}
}

// P9.1: places by the document's words, of lines near and far; each lies among its line's ends.
func TestPlaceByWords(t *testing.T) {
	next := stepper()
	for i := range 40000 {
		bits := 2 + i%28
		x, y := (far-long)*(i%3-1), (far-long)*(i/3%3-1)
		a, b := at(x+next(bits), y+next(bits)), at(x+next(bits), y+next(bits))
		n := wantLength(a, b)
		if n == 0 {
			continue
		}
		k := from0(next, n+1)
		if i%5 == 0 {
			k = []int{0, 1, n - 1, n}[i/5%4]
		}
		want := wantPlace(a, b, k)
		checkPlace(t, a, b, k, want, api.OK)
		if !geom.Bound(a, b).Has(want) {
			t.Errorf("Place(%v, %v, %d): %v is not among them", a, b, k, want)
		}
	}
}

// P9.2: ways, worked out by hand.
func TestWay(t *testing.T) {
	a, b, c := at(0, 0), at(30, 0), at(30, 40)
	checks := []struct {
		s    path.Sub
		want points
	}{
		{open(a, b, c), points{a, b, c}},
		{open(a, a, b, c), points{a, b, c}},
		{open(a, b, b, b, c), points{a, b, c}},
		{open(a, b, c, c), points{a, b, c}},
		{open(a, a, a, b, b, c, c, c), points{a, b, c}},
		{open(a, b, a), points{a, b, a}},
		{open(a, b, a, a, b), points{a, b, a, b}},
		{closed(a, b, c), points{a, b, c, a}},
		{closed(a, b, c, a), points{a, b, c, a}},
		{closed(a, b, c, a, a), points{a, b, c, a}},
		{closed(a, a, b, c, c), points{a, b, c, a}},
		{closed(a, b), points{a, b, a}},
		{closed(a, b, a), points{a, b, a}},
		{closed(a, b, a, b), points{a, b, a, b, a}},
		{open(a), points{a}},
		{closed(a), points{a}},
		{open(a, a), points{a}},
		{closed(a, a, a), points{a}},
		{open(), nil},
		{closed(), nil},
		{path.Sub{L: points{}}, nil},
		{path.Sub{L: points{}, Closed: true}, nil},
		{path.Sub{L: make(points, 0, 4), Closed: true}, nil},
		{open(at(0, 0), at(long, 0), at(long+1, 0)), points{at(0, 0), at(long, 0), at(long+1, 0)}},
		{closed(at(0, 0), at(long, 0), at(long, -long)), points{at(0, 0), at(long, 0), at(long, -long), at(0, 0)}},
		{open(at(-far, -far), at(-far, -far), at(long-far, -far)), points{at(-far, -far), at(long-far, -far)}},
	}
	for _, k := range checks {
		checkWay(t, k.s, k.want, api.OK)
	}
}

// P9.2: lines that are too long, the one back too, and points out of room, which come first wherever they are.
func TestNoWay(t *testing.T) {
	for _, s := range tooLong() {
		for _, shut := range []bool{false, true} {
			checkWay(t, path.Sub{L: s.L, Closed: shut}, nil, api.ErrOverflow)
			checkWay(t, path.Sub{L: points{s.L[0], s.L[0], s.L[1], s.L[1]}, Closed: shut}, nil, api.ErrOverflow)
			for _, n := range []int{far + 1, -far - 1, least, most} {
				for _, p := range []geom.Point{at(n, 0), at(0, n)} {
					checkWay(t, path.Sub{L: append(slices.Clone(s.L), p), Closed: shut}, nil, api.ErrRange)
					checkWay(t, path.Sub{L: append(points{p, p}, s.L...), Closed: shut}, nil, api.ErrRange)
					checkWay(t, path.Sub{L: points{p}, Closed: shut}, nil, api.ErrRange)
				}
			}
		}
	}
	back := points{at(0, 0), at(long, 0), at(long+1, 0)}
	checkWay(t, closed(back...), nil, api.ErrOverflow)
	checkWay(t, open(append(back, at(0, 0))...), nil, api.ErrOverflow)
}

// anySub has up to n points, some of which are the same.
func anySub(next func(bits int) int, n, bits int) path.Sub {
	s := path.Sub{Closed: next(8) < 0}
	for range from0(next, n+1) {
		p := at(next(bits), next(bits))
		if k := len(s.L); k > 0 && from0(next, 4) == 0 {
			p = s.L[from0(next, 2)*(k-1)]
		}
		s.L = append(s.L, p)
	}
	return s
}

// P9.2: ways by the document's words.
func TestWayByWords(t *testing.T) {
	next := stepper()
	seen := map[api.Errno]int{}
	for i := range 20000 {
		s := anySub(next, 7, 2+i%32)
		want, e := wantWay(s)
		checkWay(t, s, want, e)
		seen[e]++
	}
	if seen[api.OK] < 1000 || seen[api.ErrOverflow] < 300 {
		t.Errorf("too few of one answer: %v", seen)
	}
	s := anySub(next, 7, 33)
	s.L = append(s.L, at(far+1, 0))
	checkWay(t, s, nil, api.ErrRange)
}

// P9.3: pieces, worked out by hand.
func TestDash(t *testing.T) {
	ten := open(at(0, 0), at(10, 0))
	bend := open(at(0, 0), at(4, 0), at(4, 4))
	checks := []struct {
		s    path.Sub
		p    dash.Pattern
		want subs
	}{
		{ten, pattern(0, 3, 2), subs{open(at(0, 0), at(3, 0)), open(at(5, 0), at(8, 0))}},
		{ten, pattern(4, 3, 2), subs{open(at(1, 0), at(4, 0)), open(at(6, 0), at(9, 0))}},
		{ten, pattern(1, 3, 2), subs{open(at(0, 0), at(2, 0)), open(at(4, 0), at(7, 0)), open(at(9, 0), at(10, 0))}},
		{ten, pattern(2, 3, 2), subs{open(at(0, 0), at(1, 0)), open(at(3, 0), at(6, 0)), open(at(8, 0), at(10, 0))}},
		// What ends where the way begins is no piece, and what ends with the way has its end once.
		{ten, pattern(3, 3, 2), subs{open(at(2, 0), at(5, 0)), open(at(7, 0), at(10, 0))}},
		// What begins where the way ends is no piece.
		{ten, pattern(0, 5, 5), subs{open(at(0, 0), at(5, 0))}},
		{ten, pattern(5, 5, 5), subs{open(at(5, 0), at(10, 0))}},
		{ten, pattern(0, 10, 1), subs{open(at(0, 0), at(10, 0))}},
		{ten, pattern(1, 1, 10), nil},
		{ten, pattern(1, 1, 11), nil},
		{ten, pattern(10, 1, 10), subs{open(at(1, 0), at(2, 0))}},
		{ten, pattern(0, lasts, lasts), subs{ten}},
		{ten, pattern(lasts-1, lasts, lasts), subs{open(at(0, 0), at(1, 0))}},
		{ten, pattern(lasts, lasts, lasts), nil},
		{ten, pattern(2*lasts-1, lasts, lasts), subs{open(at(1, 0), at(10, 0))}},
		{ten, pattern(0, 9, 1), subs{open(at(0, 0), at(9, 0))}},
		{ten, pattern(0, 9, 2), subs{open(at(0, 0), at(9, 0))}},
		{ten, pattern(0, 11, 2), subs{ten}},
		// More lengths than two.
		{ten, pattern(0, 1, 2, 3, 1), subs{open(at(0, 0), at(1, 0)), open(at(3, 0), at(6, 0)), open(at(7, 0), at(8, 0))}},
		{ten, pattern(4, 1, 2, 3, 1), subs{open(at(0, 0), at(2, 0)), open(at(3, 0), at(4, 0)), open(at(6, 0), at(9, 0))}},
		{ten, pattern(0, 1, 1, 1, 1, 2, 1), subs{open(at(0, 0), at(1, 0)), open(at(2, 0), at(3, 0)), open(at(4, 0), at(6, 0)), open(at(7, 0), at(8, 0)), open(at(9, 0), at(10, 0))}},
		{ten, pattern(20, 9, 1, 1, 9, 1, 1, 2, 1), subs{open(at(0, 0), at(1, 0)), open(at(2, 0), at(4, 0)), open(at(5, 0), at(10, 0))}},
		// Round a corner.
		{bend, pattern(0, 6, 1), subs{open(at(0, 0), at(4, 0), at(4, 2)), open(at(4, 3), at(4, 4))}},
		{bend, pattern(0, 3, 2), subs{open(at(0, 0), at(3, 0)), open(at(4, 1), at(4, 4))}},
		// What ends at a corner has it as a point of the way and as its own end.
		{bend, pattern(0, 4, 1), subs{open(at(0, 0), at(4, 0), at(4, 0)), open(at(4, 1), at(4, 4))}},
		{bend, pattern(1, 5, 1), subs{open(at(0, 0), at(4, 0), at(4, 0)), open(at(4, 1), at(4, 4))}},
		{bend, pattern(0, 2, 1, 1, 1), subs{open(at(0, 0), at(2, 0)), open(at(3, 0), at(4, 0), at(4, 0)), open(at(4, 1), at(4, 3))}},
		// What begins there has it once.
		{bend, pattern(0, 3, 1), subs{open(at(0, 0), at(3, 0)), open(at(4, 0), at(4, 3))}},
		{bend, pattern(5, 3, 6), subs{open(at(4, 0), at(4, 3))}},
		{bend, pattern(0, 8, 1), subs{bend}},
		{bend, pattern(0, 9, 1), subs{bend}},
		{bend, pattern(1, 8, 3), subs{open(at(0, 0), at(4, 0), at(4, 3))}},
		// Points that are the same as the one ahead are left out.
		{open(at(0, 0), at(0, 0), at(4, 0), at(4, 0), at(4, 4), at(4, 4)), pattern(0, 6, 1), subs{open(at(0, 0), at(4, 0), at(4, 2)), open(at(4, 3), at(4, 4))}},
		// Short lines, whose lengths are 1 each though they are longer.
		{open(at(0, 0), at(1, 1), at(2, 2), at(3, 3), at(4, 4)), pattern(0, 2, 1), subs{open(at(0, 0), at(1, 1), at(2, 2), at(2, 2)), open(at(3, 3), at(4, 4))}},
		{open(at(0, 0), at(1, 1), at(2, 2), at(3, 3)), pattern(1, 1, 1), subs{open(at(1, 1), at(2, 2), at(2, 2))}},
		// There and back.
		{open(at(0, 0), at(3, 0), at(0, 0)), pattern(0, 4, 1), subs{open(at(0, 0), at(3, 0), at(2, 0)), open(at(1, 0), at(0, 0))}},
		// Closed ones go back to where they began, unless they have; no piece goes on behind that.
		{closed(at(0, 0), at(3, 0)), pattern(0, 4, 1), subs{open(at(0, 0), at(3, 0), at(2, 0)), open(at(1, 0), at(0, 0))}},
		{closed(at(0, 0), at(3, 0), at(0, 0)), pattern(0, 4, 1), subs{open(at(0, 0), at(3, 0), at(2, 0)), open(at(1, 0), at(0, 0))}},
		{closed(at(0, 0), at(4, 0), at(4, 3)), pattern(0, 20, 1), subs{open(at(0, 0), at(4, 0), at(4, 3), at(0, 0))}},
		{closed(at(0, 0), at(4, 0), at(4, 3)), pattern(5, 10, 4), subs{open(at(0, 0), at(4, 0), at(4, 1)), open(at(2, 2), at(0, 0))}},
	}
	for _, c := range checks {
		checkDash(t, c.s, c.p, c.want, api.OK)
	}
}

// P9.3: where nothing is left out the subpath is told as it is, with points that are the same, and closed if it is.
func TestNothingLeftOut(t *testing.T) {
	for _, s := range []path.Sub{
		open(at(0, 0), at(9, 0)), closed(at(0, 0), at(9, 0), at(9, 9)), closed(at(0, 0), at(9, 0), at(0, 0)),
		open(at(7, 7)), closed(at(7, 7)), open(at(7, 7), at(7, 7)), closed(at(7, 7), at(7, 7), at(7, 7)),
		open(at(0, 0), at(0, 0), at(long, long), at(long, long)),
	} {
		checkDash(t, s, dash.Pattern{}, subs{s}, api.OK)
		checkDash(t, s, dash.Pattern{L: []int{}}, subs{s}, api.OK)
	}
	for _, s := range []path.Sub{open(), closed(), {L: points{}}, {L: make(points, 0, 3), Closed: true}} {
		checkDash(t, s, dash.Pattern{}, nil, api.OK)
		checkDash(t, s, dash.Pattern{L: []int{}}, nil, api.OK)
	}
}

// P9.3: of a way of one point that point, if the pattern draws there; of none nothing.
func TestDashOfDot(t *testing.T) {
	c := at(7, -7)
	for phase := range 10 {
		// Drawn are 0 to 2, and 5 to 8.
		p := pattern(phase, 3, 2, 4, 1)
		var want subs
		if phase < 3 || phase >= 5 && phase < 9 {
			want = subs{open(c)}
		}
		for _, s := range []path.Sub{open(c), closed(c), open(c, c), closed(c, c), open(c, c, c), closed(c, c, c)} {
			checkDash(t, s, p, want, api.OK)
		}
		for _, s := range []path.Sub{open(), closed(), {L: points{}}, {L: make(points, 0, 3), Closed: true}} {
			checkDash(t, s, p, nil, api.OK)
		}
	}
	for _, p := range []geom.Point{at(far, far), at(-far, far)} {
		checkDash(t, closed(p), pattern(0, 1, 1), subs{open(p)}, api.OK)
		checkDash(t, closed(p), pattern(1, 1, 1), nil, api.OK)
	}
}

// P9.3: errors in their order: the pattern's, the way's, too many pieces.
func TestNoDash(t *testing.T) {
	all := append(tooLong(), open(), closed(), open(at(1, 1)), open(at(0, 0), at(9, 9)), open(at(far+1, 0)), closed(at(0, least), at(most, 0)), open(at(0, 0), at(9000, 0)))
	for _, p := range wrongPatterns() {
		for _, s := range all {
			checkDash(t, s, p, nil, api.ErrRange)
		}
	}
	for _, p := range []dash.Pattern{{}, pattern(0, 1, 1), pattern(5, 3, 2, 1, 1), pattern(lasts, lasts, lasts)} {
		for _, s := range tooLong() {
			checkDash(t, s, p, nil, api.ErrOverflow)
			checkDash(t, path.Sub{L: s.L, Closed: true}, p, nil, api.ErrOverflow)
			// The way's error comes first, though there are too many pieces ahead of the line that is too long.
			checkDash(t, path.Sub{L: append(points{at(s.L[0].X, 0), at(s.L[0].X, 9000)}, s.L...)}, p, nil, api.ErrOverflow)
			checkDash(t, path.Sub{L: append(slices.Clone(s.L), at(far+1, 0))}, p, nil, api.ErrRange)
			checkDash(t, path.Sub{L: append(points{at(0, -far-1)}, s.L...), Closed: true}, p, nil, api.ErrRange)
		}
		checkDash(t, open(at(most, least)), p, nil, api.ErrRange)
		checkDash(t, closed(at(0, far+1)), p, nil, api.ErrRange)
		checkDash(t, closed(at(0, 0), at(long, 0), at(long+1, 0)), p, nil, api.ErrOverflow)
	}
}

// P9.3: as many pieces as there may be, and one more, at the end of a line and round corners.
func TestDashMany(t *testing.T) {
	line := func(n int) path.Sub { return open(at(0, 0), at(n, 0)) }
	stairs := func(n int) path.Sub {
		s := open(at(0, 0))
		for i := range n {
			s.L = append(s.L, at((i+2)/2, (i+1)/2))
		}
		return s
	}
	for _, c := range []struct {
		s    path.Sub
		p    dash.Pattern
		many int // none, if there are too many
	}{
		{line(8189), pattern(0, 1, 1), 4095},
		{line(8190), pattern(0, 1, 1), 4095},
		{line(8191), pattern(0, 1, 1), 4096},
		{line(8192), pattern(0, 1, 1), 4096},
		{line(8193), pattern(0, 1, 1), 0},
		{line(9000), pattern(0, 1, 1), 0},
		{line(8192), pattern(1, 1, 1), 4096},
		{line(8193), pattern(1, 1, 1), 4096},
		{line(8194), pattern(1, 1, 1), 0},
		{line(4096 * 5), pattern(3, 3, 2), 4096},
		{line(4096*5 + 2), pattern(3, 3, 2), 4096},
		{line(4096*5 + 3), pattern(3, 3, 2), 0},
		{line(long), pattern(0, 1, 1), 0},
		{line(long), pattern(0, lasts, 1), 512},
		{line(long), pattern(0, long/4096-1, 1), 4096},
		{line(long), pattern(0, long/4096-2, 1), 0},
		{stairs(8192), pattern(0, 1, 1), 4096},
		{stairs(8193), pattern(0, 1, 1), 0},
		{stairs(20000), pattern(0, 5, 1), 3334},
		{stairs(20000), pattern(0, 1, 1, 1, 1), 0},
	} {
		l, e := dash.Dash(c.s, c.p)
		want := api.OK
		if c.many == 0 {
			want = api.ErrMany
		}
		if e != want || len(l) != c.many {
			t.Errorf("Dash(%v.., %v): %d, %d; not %d, %d", c.s.L[:2], c.p, len(l), e, c.many, want)
		}
		all, e := wantDash(c.s, c.p)
		checkDash(t, c.s, c.p, all, e)
	}
}

// anyPattern is one that is right, with lengths of so many bits at most.
func anyPattern(next func(bits int) int, bits int) dash.Pattern {
	p := dash.Pattern{L: make([]int, 2*from0(next, 5))}
	for i := range p.L {
		p.L[i] = 1 + from0(next, 1<<bits)
	}
	if len(p.L) > 0 {
		p.Phase = from0(next, p.Sum())
	}
	return p
}

// P9.3: every pattern of small lengths at every phase, on ways whose corners lie at whole numbers, so that all that may meet does.
func TestDashSmall(t *testing.T) {
	ways := subs{
		open(at(0, 0), at(6, 0)), open(at(0, 0), at(1, 0), at(2, 0), at(5, 0), at(5, 1)), open(at(2, 2), at(2, 0), at(2, 2), at(-1, 2)),
		closed(at(0, 0), at(3, 0), at(3, 4)), closed(at(1, 1), at(2, 2), at(1, 2)), open(at(0, 0), at(1, 1), at(3, 3), at(0, 5)),
	}
	for a := 1; a <= 6; a++ {
		for b := 1; b <= 6; b++ {
			for c := 0; c <= 3; c++ {
				p := pattern(0, a, b)
				if c > 0 {
					p.L = append(p.L, c, 2)
				}
				for p.Phase = range p.Sum() {
					for _, s := range ways {
						want, e := wantDash(s, p)
						checkDash(t, s, p, want, e)
					}
				}
			}
		}
	}
}

// P9.3: pieces as the document's words have them, of ways near and far.
func TestDashByWords(t *testing.T) {
	next := stepper()
	seen := map[api.Errno]int{}
	pieces := 0
	for i := range 20000 {
		bits := 2 + i%30
		s := anySub(next, 7, bits)
		p := anyPattern(next, min(max(bits-2+from0(next, 4)-2, 0), 20))
		if bits > 28 {
			p.L = nil
			p.Phase = 0
		}
		want, e := wantDash(s, p)
		checkDash(t, s, p, want, e)
		seen[e]++
		pieces += len(want)
	}
	if seen[api.OK] < 10000 || seen[api.ErrOverflow] < 100 || pieces < 50000 {
		t.Errorf("too few of one answer: %v, %d", seen, pieces)
	}
}

// P9.3: about the ends of room.
func TestDashAtEnds(t *testing.T) {
	next := stepper()
	for i := range 5000 {
		s := anySub(next, 6, 8)
		for k := range s.L {
			s.L[k].X += (far - 128) * (i%3 - 1)
			s.L[k].Y += (far - 128) * (i/3%3 - 1)
		}
		p := anyPattern(next, 6)
		want, e := wantDash(s, p)
		checkDash(t, s, p, want, e)
	}
}

// P9.4: what is handed in stays, its spare room too.
func TestHandedInStays(t *testing.T) {
	full := points{at(0, 0), at(0, 0), at(9, 0), at(9, 9), at(9, 9), at(0, 0), at(-7, -7), at(-7, -7), at(-6, -6)}
	lengths := []int{3, 2, 1, 4, 7, 1, 2, 3, 9}
	before, was := slices.Clone(full), slices.Clone(lengths)
	for n := range full {
		for k := range lengths {
			for _, shut := range []bool{false, true} {
				s, p := path.Sub{L: full[:n], Closed: shut}, dash.Pattern{L: lengths[:k]}
				p.Check()
				p.Sum()
				dash.Way(s)
				dash.Dash(s, p)
				p.Phase = 2
				dash.Dash(s, p)
			}
		}
	}
	if !slices.Equal(full, before) || !slices.Equal(lengths, was) {
		t.Errorf("what was handed in is now %v, %v", full, lengths)
	}
}

// spoil writes to all of l, its spare room too.
func spoil(l points) {
	l = l[:cap(l)]
	for i := range l {
		l[i] = at(-77777, 77777)
	}
}

// P9.4: what is told is new memory: no two lists of an answer share any, nor do two answers, nor does an answer and what was handed in.
func TestToldIsNew(t *testing.T) {
	ways := subs{
		open(at(0, 0), at(9, 0), at(9, 9)), closed(at(0, 0), at(9, 0), at(9, 9)), closed(at(0, 0), at(9, 0), at(0, 0)),
		open(at(4, 4)), open(at(0, 0), at(0, 0), at(9, 0), at(9, 0)), open(), {L: make(points, 0, 5)}, {L: make(points, 0, 5), Closed: true},
		// A piece of five points, behind which a list has room for the two of the next one.
		open(at(0, 0), at(1, 0), at(2, 0), at(3, 0), at(9, 0)),
	}
	for _, s := range ways {
		before := slices.Clone(s.L[:cap(s.L)])
		want, _ := wantWay(s)
		way, _ := dash.Way(s)
		spoil(way)
		checkWay(t, s, want, api.OK)
		if !slices.Equal(s.L[:cap(s.L)], before) {
			t.Errorf("Way(%v) shares memory with what was handed in", s)
		}
		for _, p := range []dash.Pattern{{}, pattern(0, 20, 1), pattern(0, 3, 1), pattern(0, 4, 1), pattern(4, 3, 2, 1, 1)} {
			want, _ := wantDash(path.Sub{L: slices.Clone(s.L), Closed: s.Closed}, p)
			l, _ := dash.Dash(s, p)
			other, _ := dash.Dash(s, p)
			for i := range l {
				if !slices.Equal(l[i].L, want[i].L) {
					t.Errorf("Dash(%v, %v): list %d shares memory with one ahead", s, p, i)
				}
				spoil(l[i].L)
			}
			clear(l[:cap(l)])
			if !sameSubs(other, want) || !slices.Equal(s.L[:cap(s.L)], before) {
				t.Errorf("Dash(%v, %v) shares memory", s, p)
			}
		}
	}
}

// P9.4: nothing is kept: what is changed behind a call changes nothing that it told, and the next call hangs on it alone.
func TestNothingKept(t *testing.T) {
	s, p := closed(at(0, 0), at(9, 0), at(9, 9), at(0, 0)), pattern(1, 4, 2)
	for _, q := range []dash.Pattern{{}, p} {
		given := path.Sub{L: slices.Clone(s.L), Closed: true}
		want, _ := wantDash(s, q)
		l, _ := dash.Dash(given, q)
		way, _ := dash.Way(given)
		spoil(given.L)
		clear(q.L)
		if !sameSubs(l, want) || !slices.Equal(way, s.L) {
			t.Errorf("what was told has changed: %v, %v", l, way)
		}
	}
	checkDash(t, s, p, nil, api.ErrRange)
	checkDash(t, s, pattern(0, 50, 1), subs{open(s.L...)}, api.OK)
}

// P1: every call ends, and none panics, whatever it is handed.
func TestWild(t *testing.T) {
	wild := []int{least, least + 1, -far - 1, -far, -long, -1, 0, 1, 2, lasts, lasts + 1, long, far, far + 1, most - 1, most}
	for _, x := range wild {
		for _, y := range wild {
			for _, n := range wild {
				p, q := at(x, y), at(y, n)
				dash.Length(p, q)
				dash.Place(p, q, x)
				dash.Place(q, p, n)
				for _, s := range []path.Sub{open(p, q), closed(q, p, q), open(p)} {
					dash.Way(s)
					for _, c := range []dash.Pattern{{}, pattern(x, y, n), pattern(0, y, n), pattern(n, lasts, lasts), pattern(1, n, x, y, 3), pattern(n, x)} {
						c.Sum()
						if e := c.Check(); (e == api.OK) != wantRight(c) {
							t.Errorf("Check of %v: %d", c, e)
						}
						dash.Dash(s, c)
					}
				}
			}
		}
	}
}
