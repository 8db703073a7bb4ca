package style_test

import (
	"math"
	"math/big"
	"slices"
	"testing"

	"limner/api"
	"limner/dash"
	"limner/geom"
	"limner/paint"
	"limner/path"
	"limner/stroke"
	"limner/style"
)

const (
	// far is the last number in room, near how far from nothing a shade may lie.
	far  = api.MaxCoord
	near = 16777216

	// widest is the greatest half width of a pen, long how far a line that is drawn goes at most each way.
	widest = 32768
	long   = 1 << 29

	least, most = math.MinInt, math.MaxInt
)

type (
	color  = paint.Color
	stops  = []paint.Stop
	points = []geom.Point
	polys  = [][]geom.Point
	segs   = []path.Seg
	pieces = []style.Piece
)

var (
	black = color{0, 0, 0, 255}
	white = color{255, 255, 255, 255}
	red   = color{255, 0, 0, 255}
	dim   = color{10, 20, 30, 40}
	wrong = color{0, 41, 0, 40}
)

func at(x, y int) geom.Point { return geom.Point{X: x, Y: y} }

func box(x0, y0, x1, y1 int) geom.Box { return geom.Box{X0: x0, Y0: y0, X1: x1, Y1: y1} }

func seg(kind int, l ...geom.Point) path.Seg {
	s := path.Seg{Kind: kind}
	copy(s.P[:], l)
	return s
}

// greys is from black to white.
func greys() stops { return stops{{At: 0, Color: black}, {At: 65536, Color: white}} }

func line(from, to geom.Point, l stops) style.Paint {
	return style.Paint{Kind: 2, From: from, To: to, Stops: l}
}

func ring(from, to geom.Point, l stops) style.Paint {
	return style.Paint{Kind: 3, From: from, To: to, Stops: l}
}

// full is a right style that has something of everything.
func full() style.Style {
	return style.Style{
		Fill: line(at(-3, 4), at(256, 0), stops{{At: 0, Color: black}, {At: 300, Color: dim}, {At: 65536, Color: white}}), Pen: ring(at(9, 9), at(9, -700), greys()),
		Rule: 2, Half: 5, Cap: 1, Dash: dash.Pattern{L: []int{7, 3}, Phase: 2}, Opacity: 200, Mode: 3,
	}
}

// stepper tells numbers that look like chance, the same in every run: from -2^(bits-1) up to 2^(bits-1) - 1.
func stepper() func(bits int) int {
	state := uint64(0x9e3779b97f4a7c15)
	return func(bits int) int {
		state ^= state << 13
		state ^= state >> 7
		state ^= state << 17
		return int(int64(state) >> (64 - bits))
	}
}

// from0 tells such a number from 0 up to n - 1.
func from0(next func(bits int) int, n int) int { return (next(32) & math.MaxUint32) % n }

func wildInts() []int {
	return []int{least, least + 1, -far - 1, -far, -long - 1, -near - 1, -near, -1, 0, 1, 2, 3, widest, widest + 1, near, near + 1, long, far, far + 1, most - 1, most}
}

func isRightColor(c color) bool { return c[0] <= c[3] && c[1] <= c[3] && c[2] <= c[3] }

func isShade(l stops) bool {
	if len(l) < 1 || len(l) > 16 {
		return false
	}
	ahead := 0
	for _, s := range l {
		if s.At < ahead || s.At > 65536 || !isRightColor(s.Color) {
			return false
		}
		ahead = s.At
	}
	return true
}

func isNear(l ...int) bool {
	for _, n := range l {
		if n < -16777216 || n > 16777216 {
			return false
		}
	}
	return true
}

// wantPaint tells by the document's words what is wrong with a paint.
func wantPaint(p style.Paint) api.Errno {
	nowhere := p.From.X == 0 && p.From.Y == 0 && p.To.X == 0 && p.To.Y == 0
	var right bool
	switch p.Kind {
	case 0:
		right = p.Color == color{} && nowhere && len(p.Stops) == 0
	case 1:
		right = isRightColor(p.Color) && nowhere && len(p.Stops) == 0
	case 2, 3:
		right = p.Color == color{} && isNear(p.From.X, p.From.Y, p.To.X, p.To.Y) && (p.From.X != p.To.X || p.From.Y != p.To.Y) && isShade(p.Stops)
	default:
		return api.ErrKind
	}
	if !right {
		return api.ErrRange
	}
	return api.OK
}

func isDash(p dash.Pattern) bool {
	sum := 0
	for _, n := range p.L {
		if n < 1 || n > 1048576 {
			return false
		}
		sum += n
	}
	switch len(p.L) {
	case 0:
		return p.Phase == 0
	case 2, 4, 6, 8:
		return p.Phase >= 0 && p.Phase < sum
	}
	return false
}

// wantStyle tells by the document's words what is wrong with a style.
func wantStyle(s style.Style) api.Errno {
	if e := wantPaint(s.Fill); e != api.OK {
		return e
	}
	if e := wantPaint(s.Pen); e != api.OK {
		return e
	}
	if s.Rule != 1 && s.Rule != 2 || s.Half < 0 || s.Half > 32768 || s.Cap != 0 && s.Cap != 1 && s.Cap != 2 || !isDash(s.Dash) ||
		s.Opacity < 0 || s.Opacity > 255 || s.Mode < 0 || s.Mode > 4 {
		return api.ErrRange
	}
	return api.OK
}

func moved(n int) int {
	switch {
	case n < -16777216:
		return -16777216
	case n > 16777216:
		return 16777216
	}
	return n
}

// exact tells the sum of a times b and c times d.
func exact(a, b, c, d int) *big.Int {
	m := new(big.Int).Mul(big.NewInt(int64(a)), big.NewInt(int64(b)))
	n := new(big.Int).Mul(big.NewInt(int64(c)), big.NewInt(int64(d)))
	return m.Add(m, n)
}

// wantAt tells the colour of a right paint by the document's words, in exact numbers.
func wantAt(p style.Paint, q geom.Point) color {
	x, y := moved(q.X)-p.From.X, moved(q.Y)-p.From.Y
	w, h := p.To.X-p.From.X, p.To.Y-p.From.Y
	var n, d *big.Int
	switch p.Kind {
	case 0:
		return color{}
	case 1:
		return p.Color
	case 2:
		n, d = exact(x, w, y, h), exact(w, w, h, h)
	default:
		n, d = exact(x, x, y, y), exact(w, w, h, h)
		n.Sqrt(n)
		d.Sqrt(d)
	}
	// Of a divisor above nothing Div rounds down.
	t := n.Div(n.Lsh(n, 16), d)
	c, e := paint.Shade(p.Stops, int(t.Int64()))
	if !t.IsInt64() || e != api.OK {
		panic("no shade")
	}
	return c
}

// wantPieces tells by the document's words what p leaves.
func wantPieces(s style.Style, p segs, depth int) (pieces, api.Errno) {
	if e := wantStyle(s); e != api.OK {
		return nil, e
	}
	subs, e := path.Flat(p, depth)
	if e != api.OK {
		return nil, e
	}
	fill, pen := polys{}, polys{}
	for _, sub := range subs {
		fill = append(fill, slices.Clone(sub.L))
		if s.Pen.Kind == 0 || s.Half == 0 {
			continue
		}
		cut, e := dash.Dash(sub, s.Dash)
		for i := 0; i < len(cut) && e == api.OK; i++ {
			var l polys
			l, e = stroke.Stroke(cut[i], s.Half, s.Cap)
			pen = append(pen, l...)
		}
		if e != api.OK {
			return nil, e
		}
	}
	var told pieces
	if s.Fill.Kind != 0 {
		told = append(told, style.Piece{Paint: s.Fill, Rule: s.Rule, Polys: fill})
	}
	if s.Pen.Kind != 0 && s.Half != 0 {
		told = append(told, style.Piece{Paint: s.Pen, Rule: 1, Polys: pen})
	}
	return told, api.OK
}

// samePaint holds paints against each other, place by place.
func samePaint(p, o style.Paint) bool {
	if p.Kind != o.Kind || p.Color != o.Color || p.From != o.From || p.To != o.To || len(p.Stops) != len(o.Stops) {
		return false
	}
	for i, s := range p.Stops {
		if s.At != o.Stops[i].At || s.Color != o.Stops[i].Color {
			return false
		}
	}
	return true
}

func samePieces(a, b pieces) bool {
	return slices.EqualFunc(a, b, func(p, q style.Piece) bool {
		return samePaint(p.Paint, q.Paint) && p.Rule == q.Rule && slices.EqualFunc(p.Polys, q.Polys, slices.Equal[points])
	})
}

func checkPaint(t *testing.T, p style.Paint, want api.Errno) {
	t.Helper()
	if e := p.Check(); e != want {
		t.Errorf("Check of %v: %d, not %d", p, e, want)
	}
}

func checkStyle(t *testing.T, s style.Style, want api.Errno) {
	t.Helper()
	if e := s.Check(); e != want {
		t.Errorf("Check of %v: %d, not %d", s, e, want)
	}
}

func checkAt(t *testing.T, p style.Paint, q geom.Point, want color) {
	t.Helper()
	if c := p.At(q); c != want {
		t.Errorf("%v at %v: %v, not %v", p, q, c, want)
	}
}

func checkPieces(t *testing.T, s style.Style, p segs, depth int, want pieces, wantE api.Errno) {
	t.Helper()
	if l, e := s.Pieces(p, depth); e != wantE || !samePieces(l, want) {
		t.Errorf("Pieces of %v, %v, %d: %v, %d; not %v, %d", s, p, depth, l, e, want, wantE)
	}
}

// rightPaints are right ones of each kind, up to the limits.
func rightPaints() []style.Paint {
	many := make(stops, 16)
	for i := range many {
		many[i] = paint.Stop{At: i * 4369, Color: color{0, byte(i), 0, byte(i * 17)}}
	}
	return []style.Paint{
		{}, {Stops: stops{}},
		{Kind: 1}, {Kind: 1, Color: red}, {Kind: 1, Color: dim}, {Kind: 1, Color: white, Stops: stops{}},
		line(at(0, 0), at(1, 0), greys()), line(at(0, 0), at(0, -1), greys()),
		line(at(-near, -near), at(near, near), greys()), line(at(near, -near), at(-near, near), many),
		line(at(-5, 7), at(3, 7), stops{{At: 9, Color: dim}}), line(at(-5, 7), at(-5, 6), stops{{At: 65536, Color: color{}}}),
		line(at(0, 0), at(300, 400), stops{{At: 0, Color: red}, {At: 0, Color: dim}, {At: 9, Color: black}, {At: 9, Color: white}}),
		ring(at(0, 0), at(1, 0), greys()), ring(at(7, 7), at(8, 8), greys()),
		ring(at(-near, near), at(near, -near), many), ring(at(-near, -near), at(1-near, -near), greys()),
		ring(at(30, -40), at(0, 0), stops{{At: 65536, Color: red}}),
	}
}

// P16.1: right paints, of each kind and up to the limits.
func TestRightPaints(t *testing.T) {
	for _, p := range rightPaints() {
		checkPaint(t, p, api.OK)
	}
}

// wrongPaints are of each kind, but not right.
func wrongPaints() []style.Paint {
	return []style.Paint{
		{Color: red}, {Color: color{0, 0, 0, 1}}, {From: at(1, 0)}, {From: at(0, 1)}, {To: at(1, 0)}, {To: at(0, -1)}, {From: at(1, 1), To: at(1, 1)}, {Stops: greys()},
		{Kind: 1, Color: wrong}, {Kind: 1, Color: color{1, 0, 0, 0}}, {Kind: 1, Color: color{0, 0, 255, 254}},
		{Kind: 1, Color: red, From: at(1, 0)}, {Kind: 1, Color: red, From: at(0, -1)}, {Kind: 1, Color: red, To: at(-1, 0)}, {Kind: 1, Color: red, To: at(0, 1)},
		{Kind: 1, Color: red, Stops: greys()}, {Kind: 1, Stops: stops{{}}},
		{Kind: 2}, {Kind: 3}, {Kind: 2, Stops: greys()}, {Kind: 3, Stops: greys()},
		{Kind: 2, To: at(1, 0), Color: color{0, 0, 0, 1}, Stops: greys()}, {Kind: 3, To: at(1, 0), Color: red, Stops: greys()},
		line(at(5, 6), at(5, 6), greys()), ring(at(5, 6), at(5, 6), greys()),
		line(at(near+1, 0), at(0, 0), greys()), line(at(0, near+1), at(0, 0), greys()), line(at(-near-1, 0), at(0, 0), greys()), line(at(0, -near-1), at(0, 0), greys()),
		ring(at(0, 0), at(near+1, 0), greys()), ring(at(0, 0), at(0, near+1), greys()), ring(at(0, 0), at(-near-1, 0), greys()), ring(at(0, 0), at(0, -near-1), greys()),
		line(at(0, 0), at(1, 0), nil), ring(at(0, 0), at(1, 0), stops{}), line(at(0, 0), at(1, 0), make(stops, 17)), ring(at(0, 0), at(1, 0), make(stops, 17)),
		line(at(0, 0), at(1, 0), stops{{At: -1}}), ring(at(0, 0), at(1, 0), stops{{At: 65537}}),
		line(at(0, 0), at(1, 0), stops{{At: 2}, {At: 1}}), ring(at(0, 0), at(1, 0), stops{{Color: red}, {Color: wrong}}),
		line(at(least, most), at(most, least), greys()), ring(at(most, most), at(least, least), greys()),
	}
}

// P16.1: ErrRange of what is wrong with a paint of a kind; ErrKind of one that is of none, whatever else is wrong.
func TestWrongPaints(t *testing.T) {
	for _, p := range wrongPaints() {
		checkPaint(t, p, api.ErrRange)
		for _, kind := range []int{-1, 4, 5, least, most} {
			p.Kind = kind
			checkPaint(t, p, api.ErrKind)
		}
	}
	for _, kind := range []int{-1, 4, 256, 257, 258, least, least + 1, most} {
		checkPaint(t, style.Paint{Kind: kind}, api.ErrKind)
		checkPaint(t, style.Paint{Kind: kind, To: at(1, 0), Stops: greys()}, api.ErrKind)
	}
}

// P16.1: paints put together of any parts, as the document's words say.
func TestPaintsByWords(t *testing.T) {
	colors := []color{{}, red, dim, wrong, {0, 0, 0, 1}}
	places := points{at(0, 0), at(0, 1), at(near, -near), at(-near-1, 0), at(0, near+1), at(most, least)}
	shades := []stops{nil, {}, greys(), {{At: 7}}, {{At: 7}, {At: 6}}, make(stops, 16), make(stops, 17), {{Color: wrong}}, {{At: 65537}}}
	seen := map[api.Errno]int{}
	for kind := -1; kind <= 4; kind++ {
		for _, c := range colors {
			for _, from := range places {
				for _, to := range places {
					for _, l := range shades {
						p := style.Paint{Kind: kind, Color: c, From: from, To: to, Stops: l}
						want := wantPaint(p)
						checkPaint(t, p, want)
						seen[want]++
					}
				}
			}
		}
	}
	// Right are two of Kind 0, four colours with each of these lists of Kind 1, and six ways with three shades of each other Kind.
	if seen[api.OK] != 2+4*2+2*6*3 || seen[api.ErrKind] != 2*5*36*9 {
		t.Errorf("other numbers of answers: %v", seen)
	}
}

// P16.1: right styles, up to the limits.
func TestRightStyles(t *testing.T) {
	checkStyle(t, full(), api.OK)
	checkStyle(t, style.None(), api.OK)
	checkStyle(t, style.Style{Rule: 1}, api.OK)
	for _, p := range rightPaints() {
		for _, o := range rightPaints() {
			for _, s := range []style.Style{full(), style.None()} {
				s.Fill, s.Pen = p, o
				checkStyle(t, s, api.OK)
			}
		}
	}
	for _, s := range []style.Style{
		{Rule: 2, Half: 32768, Cap: 2, Opacity: 255, Mode: 4, Dash: dash.Pattern{L: slices.Repeat([]int{1048576}, 8), Phase: 8*1048576 - 1}},
		{Rule: 1, Half: 1, Dash: dash.Pattern{L: []int{1, 1}, Phase: 1}}, {Rule: 1, Dash: dash.Pattern{L: []int{}}},
	} {
		checkStyle(t, s, api.OK)
	}
}

// P16.1: each number of a style, alone, from below its limits to above them.
func TestStyleNumbers(t *testing.T) {
	for _, c := range []struct {
		name        string
		place       func(s *style.Style) *int
		least, most int
	}{
		{"Rule", func(s *style.Style) *int { return &s.Rule }, 1, 2},
		{"Half", func(s *style.Style) *int { return &s.Half }, 0, 32768},
		{"Cap", func(s *style.Style) *int { return &s.Cap }, 0, 2},
		{"Opacity", func(s *style.Style) *int { return &s.Opacity }, 0, 255},
		{"Mode", func(s *style.Style) *int { return &s.Mode }, 0, 4},
		{"Phase", func(s *style.Style) *int { return &s.Dash.Phase }, 0, 9},
	} {
		s := full()
		n := c.place(&s)
		for *n = -3; *n < 33000; *n++ {
			want := api.ErrRange
			if c.least <= *n && *n <= c.most {
				want = api.OK
			}
			if e := s.Check(); e != want {
				t.Errorf("%s %d: %d, not %d", c.name, *n, e, want)
			}
		}
		for _, *n = range []int{least, least + 1, -far, -256, 1 << 16, 1 << 20, far, 1 << 32, 1<<32 + 1, 1<<32 + 2, most - 1, most} {
			checkStyle(t, s, api.ErrRange)
		}
	}
}

// P16.1: a style's dashes are layer 9's.
func TestStyleDashes(t *testing.T) {
	for _, l := range [][]int{{1}, {1, 2, 3}, {0, 1}, {1, 0}, {-1, 5}, {1, 1048577}, slices.Repeat([]int{1}, 10), {most, most}} {
		s := full()
		s.Dash = dash.Pattern{L: l}
		checkStyle(t, s, api.ErrRange)
	}
	for _, p := range []dash.Pattern{{Phase: 1}, {Phase: -1}, {L: []int{2, 2}, Phase: 4}, {L: []int{2, 2}, Phase: -1}} {
		s := style.None()
		s.Dash = p
		checkStyle(t, s, api.ErrRange)
	}
}

// P16.1: of a style's errors first Fill's, then Pen's, then the rest.
func TestStyleErrorsInOrder(t *testing.T) {
	right, range_, kind := style.Plain(red), style.Plain(wrong), style.Paint{Kind: 4}
	for _, c := range []struct {
		fill, pen style.Paint
		want      api.Errno
	}{
		{right, right, api.OK}, {range_, right, api.ErrRange}, {kind, right, api.ErrKind}, {right, range_, api.ErrRange}, {right, kind, api.ErrKind},
		{range_, kind, api.ErrRange}, {kind, range_, api.ErrKind}, {range_, range_, api.ErrRange}, {kind, kind, api.ErrKind},
	} {
		s := full()
		s.Fill, s.Pen = c.fill, c.pen
		checkStyle(t, s, c.want)
		// Without a pen its paint must be right all the same.
		s.Half = 0
		checkStyle(t, s, c.want)
		if c.want == api.OK {
			c.want = api.ErrRange
		}
		for _, spoil := range []func(s *style.Style){
			func(s *style.Style) { s.Rule = 3 }, func(s *style.Style) { s.Half = -1 }, func(s *style.Style) { s.Cap = 3 },
			func(s *style.Style) { s.Dash.Phase = 10 }, func(s *style.Style) { s.Opacity = 256 }, func(s *style.Style) { s.Mode = 5 },
		} {
			o := s
			spoil(&o)
			checkStyle(t, o, c.want)
		}
	}
	for _, p := range wrongPaints() {
		s, o := full(), full()
		s.Fill, o.Pen = p, p
		checkStyle(t, s, api.ErrRange)
		checkStyle(t, o, api.ErrRange)
	}
}

// P16.1: Plain and None.
func TestPlainAndNone(t *testing.T) {
	for _, c := range []color{{}, red, dim, white, wrong, {255, 255, 255, 0}} {
		if p := style.Plain(c); !samePaint(p, style.Paint{Kind: 1, Color: c}) {
			t.Errorf("Plain(%v): %v", c, p)
		}
	}
	checkPaint(t, style.Plain(dim), api.OK)
	checkPaint(t, style.Plain(wrong), api.ErrRange)
	s := style.None()
	if !samePaint(s.Fill, style.Paint{}) || !samePaint(s.Pen, style.Paint{}) || s.Rule != 1 || s.Half != 0 || s.Cap != 0 || len(s.Dash.L) != 0 || s.Dash.Phase != 0 || s.Opacity != 255 || s.Mode != 0 {
		t.Errorf("None: %v", s)
	}
}

// P16.1: paints are one, if all that they have is.
func TestEqualPaints(t *testing.T) {
	one := style.Paint{Kind: 2, Color: dim, From: at(1, 2), To: at(3, 4), Stops: greys()}
	others := []style.Paint{
		{}, {Kind: 3, Color: dim, From: at(1, 2), To: at(3, 4), Stops: greys()},
		{Kind: 2, Color: dim, From: at(0, 2), To: at(3, 4), Stops: greys()}, {Kind: 2, Color: dim, From: at(1, 0), To: at(3, 4), Stops: greys()},
		{Kind: 2, Color: dim, From: at(1, 2), To: at(0, 4), Stops: greys()}, {Kind: 2, Color: dim, From: at(1, 2), To: at(3, 0), Stops: greys()},
		{Kind: 2, Color: dim, From: at(3, 4), To: at(1, 2), Stops: greys()},
		{Kind: 2, Color: dim, From: at(1, 2), To: at(3, 4)}, {Kind: 2, Color: dim, From: at(1, 2), To: at(3, 4), Stops: greys()[:1]},
		{Kind: 2, Color: dim, From: at(1, 2), To: at(3, 4), Stops: append(greys(), paint.Stop{})},
		{Kind: 2, Color: dim, From: at(1, 2), To: at(3, 4), Stops: stops{{At: 1, Color: black}, {At: 65536, Color: white}}},
		{Kind: 2, Color: dim, From: at(1, 2), To: at(3, 4), Stops: stops{{At: 0, Color: black}, {At: 65536, Color: red}}},
	}
	for i := range 4 {
		o := one
		o.Color[i]++
		others = append(others, o)
	}
	again := one
	again.Stops = greys()
	if !one.Equal(one) || !one.Equal(again) || !again.Equal(one) {
		t.Errorf("a paint is not one with itself")
	}
	for i, p := range others {
		if one.Equal(p) || p.Equal(one) || !p.Equal(p) {
			t.Errorf("Equal of %v", p)
		}
		for _, o := range others[:i] {
			if o.Equal(p) || p.Equal(o) {
				t.Errorf("%v is one with %v", p, o)
			}
		}
	}
	if empty := (style.Paint{Kind: 9, Stops: stops{}}); !empty.Equal(style.Paint{Kind: 9}) || !(style.Paint{Kind: 9}).Equal(empty) {
		t.Errorf("nil and empty stops are two")
	}
}

// P16.1: styles are one, if all that they have is.
func TestEqualStyles(t *testing.T) {
	var others []style.Style
	for _, change := range []func(s *style.Style){
		func(s *style.Style) { s.Fill.Kind = 3 }, func(s *style.Style) { s.Fill.Stops[1].At++ }, func(s *style.Style) { s.Fill = style.Paint{} }, func(s *style.Style) { s.Fill, s.Pen = s.Pen, s.Fill },
		func(s *style.Style) { s.Pen.Kind = 2 }, func(s *style.Style) { s.Pen.Stops[0].Color[3]-- }, func(s *style.Style) { s.Pen = style.Plain(red) },
		func(s *style.Style) { s.Rule = 1 }, func(s *style.Style) { s.Half++ }, func(s *style.Style) { s.Cap++ }, func(s *style.Style) { s.Half, s.Cap = s.Cap, s.Half },
		func(s *style.Style) { s.Dash.Phase++ }, func(s *style.Style) { s.Dash.L[0]++ }, func(s *style.Style) { s.Dash.L[1]-- }, func(s *style.Style) { s.Dash.L = nil },
		func(s *style.Style) { s.Dash.L = []int{7, 3, 7, 3} }, func(s *style.Style) { s.Dash = dash.Pattern{} },
		func(s *style.Style) { s.Opacity-- }, func(s *style.Style) { s.Mode = 0 }, func(s *style.Style) { s.Mode = -1 },
	} {
		s := full()
		change(&s)
		others = append(others, s)
	}
	one := full()
	if !one.Equal(one) || !one.Equal(full()) || !style.None().Equal(style.None()) || !(style.Style{}).Equal(style.Style{}) || style.None().Equal(style.Style{}) {
		t.Errorf("a style is not one with itself")
	}
	for i, s := range others {
		if one.Equal(s) || s.Equal(one) || !s.Equal(s) {
			t.Errorf("Equal of %v", s)
		}
		for _, o := range others[:i] {
			if o.Equal(s) || s.Equal(o) {
				t.Errorf("%v is one with %v", s, o)
			}
		}
	}
	s, o := style.None(), style.None()
	s.Dash.L, s.Fill.Stops, s.Pen.Stops = []int{}, stops{}, stops{}
	if !s.Equal(o) || !o.Equal(s) {
		t.Errorf("nil and empty lists are two")
	}
}

// P16.2: colours of paints, worked out by hand.
func TestAt(t *testing.T) {
	grey := func(n byte) color { return color{n, n, n, 255} }
	// The document's example: the shade at 32768.
	flat := line(at(0, 0), at(256, 0), greys())
	checkAt(t, flat, at(128, 99), grey(128))
	steps := stops{{At: 0, Color: red}, {At: 1, Color: dim}, {At: 65535, Color: white}, {At: 65536, Color: black}}
	for _, c := range []struct {
		p    style.Paint
		q    geom.Point
		want color
	}{
		{style.Paint{}, at(3, 4), color{}}, {style.Plain(dim), at(-near-9, most), dim}, {style.Plain(color{}), at(0, 0), color{}},
		{flat, at(0, 0), grey(0)}, {flat, at(0, most), grey(0)}, {flat, at(-1, 0), grey(0)}, {flat, at(1, 0), grey(1)}, {flat, at(254, -9), grey(253)}, {flat, at(256, 0), grey(255)}, {flat, at(257, 0), grey(255)},
		// Ten to the right are 300 of 2500 on a way by (30, 40), ten downward 400.
		{line(at(0, 0), at(30, 40), greys()), at(10, 0), grey(31)}, {line(at(7, 7), at(37, 47), greys()), at(7, 17), grey(41)}, {line(at(37, 47), at(7, 7), greys()), at(7, 17), grey(214)},
		// Rounded down: at a third of 65536 a stop at 21845 is reached, one at 21846 not.
		{line(at(0, 0), at(3, 0), stops{{At: 21845, Color: red}, {At: 21846, Color: dim}}), at(1, 0), red}, {line(at(0, 0), at(3, 0), stops{{At: 21844, Color: red}, {At: 21845, Color: dim}}), at(1, 0), dim},
		// Behind From the place is below nothing, and is not rounded up to it.
		{line(at(0, 0), at(near, 0), steps), at(-1, 0), red}, {line(at(0, 0), at(near, 0), steps), at(0, 0), red}, {line(at(0, 0), at(near, 0), steps), at(255, 0), red}, {line(at(0, 0), at(near, 0), steps), at(256, 0), dim},
		{line(at(0, 0), at(near, 0), steps), at(near-1, 7), white}, {line(at(0, 0), at(near, 0), steps), at(near, 7), black},
		// Round: (3, 4) is 5 away, (1, 1) 1.
		{ring(at(0, 0), at(10, 0), greys()), at(3, 4), grey(128)}, {ring(at(0, 0), at(0, 10), greys()), at(-3, 4), grey(128)}, {ring(at(9, 9), at(9, 19), greys()), at(12, 5), grey(128)},
		{ring(at(0, 0), at(10, 0), greys()), at(1, 1), grey(25)}, {ring(at(0, 0), at(10, 0), greys()), at(0, 0), grey(0)}, {ring(at(0, 0), at(10, 0), greys()), at(-10, 0), grey(255)}, {ring(at(0, 0), at(10, 0), greys()), at(-7, 8), grey(255)},
		// From there to To, too, it is a whole number: (1, 1) is as far as (1, 0).
		{ring(at(0, 0), at(1, 1), greys()), at(1, 0), white}, {ring(at(0, 0), at(2, 2), greys()), at(1, 0), grey(128)},
		{ring(at(0, 0), at(3, 0), stops{{At: 21845, Color: red}, {At: 21846, Color: dim}}), at(0, 1), red},
		{ring(at(0, 0), at(3, 0), stops{{At: 43690, Color: red}, {At: 43691, Color: dim}}), at(0, 2), red}, {ring(at(0, 0), at(3, 0), stops{{At: 43689, Color: red}, {At: 43690, Color: dim}}), at(0, 2), dim},
	} {
		checkPaint(t, c.p, api.OK)
		checkAt(t, c.p, c.q, c.want)
	}
}

// P16.2: points that are too far are moved, X and Y each by itself.
func TestAtMoves(t *testing.T) {
	wild := wildInts()
	for _, p := range []style.Paint{
		line(at(-near, 0), at(near, 0), greys()), line(at(0, near), at(0, -near), greys()), line(at(-near, -near), at(near, near), greys()), line(at(near, 12345), at(-near, near), greys()),
		ring(at(-near, 0), at(near, 0), greys()), ring(at(near, near), at(-near, -near), greys()), ring(at(0, 5), at(-near, 99), greys()), style.Plain(dim), {},
	} {
		checkPaint(t, p, api.OK)
		for _, x := range wild {
			for _, y := range wild {
				checkAt(t, p, at(x, y), wantAt(p, at(x, y)))
				if a, b := p.At(at(x, y)), p.At(at(moved(x), moved(y))); a != b {
					t.Errorf("%v at %v: %v, but %v where that is moved", p, at(x, y), a, b)
				}
			}
		}
	}
	// A shade of all of room is twice as far.
	p := line(at(0, 0), at(near, 0), greys())
	checkAt(t, p, at(far, 0), white)
	p = line(at(-near, 0), at(near, 0), stops{{At: 65535, Color: red}, {At: 65536, Color: dim}})
	checkAt(t, p, at(near-1, 0), red)
	checkAt(t, p, at(near, 0), dim)
	checkAt(t, p, at(most, 0), dim)
}

// P16.2: numbers that are as great as they can be.
func TestAtEnds(t *testing.T) {
	ends := []int{-near, 1 - near, -1, 0, 1, near - 1, near}
	shades := []stops{greys(), {{At: 0, Color: red}, {At: 1, Color: dim}, {At: 65535, Color: white}, {At: 65536, Color: black}}}
	for _, a := range ends {
		for _, b := range ends {
			for _, c := range ends {
				for _, d := range ends {
					if a == c && b == d {
						continue
					}
					for _, x := range ends {
						for _, l := range shades {
							for kind := 2; kind <= 3; kind++ {
								p := style.Paint{Kind: kind, From: at(a, b), To: at(c, d), Stops: l}
								checkAt(t, p, at(x, a), wantAt(p, at(x, a)))
								checkAt(t, p, at(-x, d), wantAt(p, at(-x, d)))
							}
						}
					}
				}
			}
		}
	}
}

// anyShade tells stops of any number, places and right colours.
func anyShade(next func(bits int) int) stops {
	l := make(stops, 1+from0(next, 16))
	for i := range l {
		a := byte(from0(next, 256))
		l[i] = paint.Stop{At: from0(next, 65537), Color: paint.Straight(byte(next(8)), byte(next(8)), byte(next(8)), a)}
	}
	slices.SortFunc(l, func(a, b paint.Stop) int { return a.At - b.At })
	return l
}

// anyPaint tells a right paint of any kind.
func anyPaint(next func(bits int) int, bits int) style.Paint {
	switch kind := from0(next, 5); kind {
	case 0:
		return style.Paint{}
	case 1:
		return style.Plain(paint.Straight(byte(next(8)), byte(next(8)), byte(next(8)), byte(next(8))))
	default:
		p := style.Paint{Kind: 2 + kind%2, From: at(next(bits), next(bits)), To: at(next(bits), next(bits)), Stops: anyShade(next)}
		if p.From == p.To {
			p.To.X ^= 1
		}
		return p
	}
}

// P16.2: any right paints at any points, in exact numbers, of all sizes; a right colour each.
func TestAtByWords(t *testing.T) {
	next := stepper()
	colors := map[color]bool{}
	for i := range 60000 {
		p := anyPaint(next, 2+i%24)
		checkPaint(t, p, api.OK)
		for range 3 {
			q := at(next(2+i%26), next(2+i%26))
			c := p.At(q)
			if c != wantAt(p, q) || !isRightColor(c) {
				t.Errorf("%v at %v: %v, not %v", p, q, c, wantAt(p, q))
			}
			colors[c] = true
		}
	}
	if len(colors) < 30000 {
		t.Errorf("only %d colours", len(colors))
	}
}

// P16.2: all small shades, everywhere near.
func TestAtSmall(t *testing.T) {
	l := stops{{At: 0, Color: black}, {At: 16384, Color: dim}, {At: 32768, Color: red}, {At: 32768, Color: dim}, {At: 65536, Color: white}}
	for x := -3; x <= 3; x++ {
		for y := -3; y <= 3; y++ {
			if x == 0 && y == 0 {
				continue
			}
			for i := -5; i <= 5; i++ {
				for j := -5; j <= 5; j++ {
					for kind := 2; kind <= 3; kind++ {
						p := style.Paint{Kind: kind, From: at(2, -1), To: at(2+x, y-1), Stops: l}
						checkAt(t, p, at(i, j), wantAt(p, at(i, j)))
					}
				}
			}
		}
	}
}

// P16.3: pieces worked out by hand.
func TestPieces(t *testing.T) {
	corner := segs{seg(1, at(0, 0)), seg(2, at(10, 0)), seg(2, at(10, 10))}
	shut := append(slices.Clone(corner), seg(5))
	curved := segs{seg(1, at(0, 0)), seg(3, at(8, 0), at(8, 8)), seg(1, at(20, 20)), seg(1, at(0, 0)), seg(2, at(0, -9)), seg(5)}
	fill, pen := style.Plain(red), style.Plain(dim)
	whole, dashed := []int(nil), []int{5, 5}
	for _, c := range []struct {
		fill, pen       style.Paint
		rule, half, cap int
		dashes          []int
		p               segs
		depth           int
		want            pieces
	}{
		// Nothing, but for what the other has.
		{style.Paint{}, style.Paint{}, 1, 0, 0, whole, corner, 0, nil},
		{style.Paint{}, style.Paint{}, 1, 9, 1, dashed, corner, 0, nil},
		{style.Paint{}, pen, 1, 0, 0, whole, corner, 0, nil},
		{fill, style.Paint{}, 1, 0, 0, whole, corner, 0, pieces{{fill, 1, polys{{at(0, 0), at(10, 0), at(10, 10)}}}}},
		{fill, style.Paint{}, 2, 9, 1, dashed, corner, 0, pieces{{fill, 2, polys{{at(0, 0), at(10, 0), at(10, 10)}}}}},
		{fill, pen, 2, 0, 0, whole, shut, 0, pieces{{fill, 2, polys{{at(0, 0), at(10, 0), at(10, 10)}}}}},
		// Without segments a piece has no polygons.
		{fill, pen, 2, 1, 0, whole, nil, 6, pieces{{fill, 2, nil}, {pen, 1, nil}}},
		{fill, pen, 2, 1, 0, dashed, segs{}, 0, pieces{{fill, 2, nil}, {pen, 1, nil}}},
		{fill, pen, 1, 1, 0, whole, segs{seg(1, at(3, 4))}, 0, pieces{{fill, 1, polys{{at(3, 4)}}}, {pen, 1, nil}}},
		{style.Paint{}, pen, 1, 1, 0, whole, segs{seg(1, at(3, 4)), seg(5)}, 0, pieces{{pen, 1, nil}}},
		{fill, pen, 2, 1, 2, whole, segs{seg(1, at(3, 4))}, 0, pieces{{fill, 2, polys{{at(3, 4)}}}, {pen, 1, polys{{at(2, 3), at(4, 3), at(4, 5), at(2, 5)}}}}},
		// All subpaths, curves parted as often as depth tells, and nothing said twice.
		{fill, style.Paint{}, 2, 0, 0, whole, curved, 0, pieces{{fill, 2, polys{{at(0, 0), at(8, 8)}, {at(20, 20)}, {at(0, 0), at(0, -9)}}}}},
		{fill, style.Paint{}, 2, 0, 0, whole, curved, 1, pieces{{fill, 2, polys{{at(0, 0), at(6, 2), at(8, 8)}, {at(20, 20)}, {at(0, 0), at(0, -9)}}}}},
		// The pen's rule is 1, whatever the fill's is; the fill comes first.
		{fill, pen, 2, 1, 0, whole, segs{seg(1, at(0, 0)), seg(2, at(4, 0))}, 0, pieces{{fill, 2, polys{{at(0, 0), at(4, 0)}}}, {pen, 1, polys{{at(0, -1), at(4, -1), at(4, 1), at(0, 1)}}}}},
		{style.Paint{}, pen, 2, 1, 0, whole, segs{seg(1, at(0, 0)), seg(2, at(4, 0)), seg(1, at(7, 7)), seg(1, at(9, 4)), seg(2, at(9, 0))}, 0,
			pieces{{pen, 1, polys{{at(0, -1), at(4, -1), at(4, 1), at(0, 1)}, {at(8, 4), at(8, 0), at(10, 0), at(10, 4)}}}}},
		// Dashes of each subpath begin anew, at its beginning.
		{style.Paint{}, pen, 1, 1, 0, []int{2, 1}, segs{seg(1, at(0, 0)), seg(2, at(4, 0)), seg(1, at(9, 4)), seg(2, at(9, 1))}, 0,
			pieces{{pen, 1, polys{{at(0, -1), at(2, -1), at(2, 1), at(0, 1)}, {at(3, -1), at(4, -1), at(4, 1), at(3, 1)}, {at(8, 4), at(8, 2), at(10, 2), at(10, 4)}}}}},
		{style.Paint{}, pen, 1, 1, 2, []int{2, 100}, segs{seg(1, at(0, 0)), seg(2, at(9, 0))}, 0,
			pieces{{pen, 1, polys{{at(0, -1), at(2, -1), at(2, 1), at(0, 1)}, {at(-1, -1), at(0, -1), at(0, 1), at(-1, 1)}, {at(2, -1), at(3, -1), at(3, 1), at(2, 1)}}}}},
	} {
		s := style.Style{Fill: c.fill, Pen: c.pen, Rule: c.rule, Half: c.half, Cap: c.cap, Dash: dash.Pattern{L: c.dashes}, Opacity: 3, Mode: 1}
		checkPieces(t, s, c.p, c.depth, c.want, api.OK)
	}
}

// P16.3: the pen goes along a closed subpath as a whole only if nothing is left out.
func TestPiecesOfClosed(t *testing.T) {
	p := segs{seg(1, at(0, 0)), seg(2, at(10, 0)), seg(2, at(10, 10)), seg(5)}
	for _, c := range []struct {
		dashes   []int
		cap      int
		n, discs int
	}{{nil, 0, 6, 3}, {nil, 1, 6, 3}, {nil, 2, 6, 3}, {[]int{100, 1}, 0, 5, 2}, {[]int{100, 1}, 1, 7, 4}, {[]int{100, 1}, 2, 7, 2}, {[]int{5, 5}, 0, 4, 0}} {
		s := style.Style{Pen: ring(at(1, 2), at(3, 4), greys()), Rule: 2, Half: 2, Cap: c.cap, Dash: dash.Pattern{L: c.dashes}}
		l, e := s.Pieces(p, 3)
		if e != api.OK || len(l) != 1 || len(l[0].Polys) != c.n || l[0].Rule != 1 || !samePaint(l[0].Paint, s.Pen) {
			t.Errorf("Pieces: %v, %d", l, e)
			continue
		}
		discs := 0
		for _, poly := range l[0].Polys {
			if len(poly) == 16 {
				discs++
			}
		}
		if discs != c.discs {
			t.Errorf("Pieces of %v: %d discs, not %d", s, discs, c.discs)
		}
	}
}

// P16.3: the style's error, then that of Flat, whatever else is wrong, and whether or not anything is left.
func TestPiecesErrors(t *testing.T) {
	good := segs{seg(1), seg(2, at(9, 9))}
	many := append(slices.Repeat(segs{seg(1)}, 4096), seg(9))
	none, s := style.None(), full()
	kind, range_ := full(), full()
	kind.Pen.Kind, range_.Mode = 4, 5
	for _, c := range []struct {
		s     style.Style
		p     segs
		depth int
		want  api.Errno
	}{
		{kind, good, 3, api.ErrKind}, {range_, good, 3, api.ErrRange}, {style.Style{}, nil, 0, api.ErrRange}, {style.Style{}, segs{seg(2)}, 0, api.ErrRange},
		{kind, many, 7, api.ErrKind}, {range_, many, 7, api.ErrRange}, {kind, good, -1, api.ErrKind}, {range_, segs{seg(2)}, 0, api.ErrRange},
		{s, many, 3, api.ErrMany}, {none, many, 3, api.ErrMany}, {s, many, 7, api.ErrMany}, {s, segs{seg(2)}, 3, api.ErrKind}, {none, segs{seg(2)}, 7, api.ErrKind}, {s, segs{seg(1), seg(5, at(1, 1))}, 3, api.ErrKind},
		{s, segs{seg(1, at(far+1, 0))}, 3, api.ErrRange}, {none, segs{seg(1, at(far+1, 0))}, 3, api.ErrRange},
		{s, good, 7, api.ErrRange}, {s, good, -1, api.ErrRange}, {none, good, 7, api.ErrRange}, {none, nil, 7, api.ErrRange}, {none, nil, least, api.ErrRange}, {none, nil, most, api.ErrRange},
		{s, good, 6, api.OK}, {none, good, 0, api.OK}, {none, nil, 6, api.OK},
	} {
		want, wantE := wantPieces(c.s, c.p, c.depth)
		if wantE != c.want {
			t.Errorf("wantPieces tells %d, not %d", wantE, c.want)
		}
		checkPieces(t, c.s, c.p, c.depth, want, c.want)
	}
	for i := range 5 {
		for j := range 5 {
			o := full()
			o.Fill.Kind, o.Pen.Kind = i, j
			o.Fill.Color, o.Pen.Color = color{}, color{}
			checkPieces(t, o, segs{seg(2)}, 3, nil, wantKinds(i, j))
		}
	}
}

// wantKinds tells the error of a style whose paints are shades, but for their kinds, of a path that is none.
func wantKinds(i, j int) api.Errno {
	for _, kind := range []int{i, j} {
		switch kind {
		case 0, 1:
			return api.ErrRange
		case 4:
			return api.ErrKind
		}
	}
	return api.ErrKind
}

// P16.3: errors of dashes and strokes, subpath by subpath, the dashes' ahead; none of them without a pen.
func TestPiecesErrorsOfPen(t *testing.T) {
	tooFar := segs{seg(1, at(0, 0)), seg(2, at(long+1, 0))}
	outside := segs{seg(1, at(0, far)), seg(2, at(9, far))}
	endless := segs{seg(1, at(0, 0)), seg(2, at(9000, 0))}
	both := segs{seg(1, at(0, far)), seg(2, at(9000, far))}
	good := segs{seg(1, at(5, 5)), seg(2, at(9, 9))}
	whole, short := []int(nil), []int{1, 1}
	for _, c := range []struct {
		dashes []int
		want   api.Errno
		p      []segs
	}{
		{whole, api.OK, []segs{good, endless, good}}, {short, api.OK, []segs{good, good}},
		{whole, api.ErrOverflow, []segs{good, tooFar}}, {short, api.ErrOverflow, []segs{tooFar, good}},
		{whole, api.ErrOverflow, []segs{good, outside}}, {short, api.ErrOverflow, []segs{outside, good}}, {whole, api.ErrOverflow, []segs{both}},
		{short, api.ErrMany, []segs{endless, good}}, {short, api.ErrMany, []segs{good, endless}}, {short, api.ErrMany, []segs{both}},
		{short, api.ErrMany, []segs{endless, outside}}, {short, api.ErrOverflow, []segs{outside, endless}},
		{short, api.ErrMany, []segs{good, endless, tooFar}}, {short, api.ErrOverflow, []segs{good, tooFar, endless}},
		{short, api.ErrOverflow, []segs{outside, both}}, {short, api.ErrMany, []segs{both, outside}},
	} {
		p := slices.Concat(c.p...)
		for cap := range 3 {
			s := style.Style{Fill: style.Plain(red), Pen: style.Plain(dim), Rule: 1, Half: 2, Cap: cap, Dash: dash.Pattern{L: c.dashes}}
			want, wantE := wantPieces(s, p, 2)
			if wantE != c.want {
				t.Errorf("wantPieces tells %d, not %d", wantE, c.want)
			}
			checkPieces(t, s, p, 2, want, c.want)
			fill := make(polys, 0, len(p)/2)
			for i := 0; i < len(p); i += 2 {
				fill = append(fill, points{p[i].P[0], p[i+1].P[0]})
			}
			s.Half = 0
			checkPieces(t, s, p, 2, pieces{{style.Plain(red), 1, fill}}, api.OK)
			s.Half, s.Pen = 2, style.Paint{}
			checkPieces(t, s, p, 2, pieces{{style.Plain(red), 1, fill}}, api.OK)
		}
	}
}

// anyPath tells a path of n segments, or a few less, with points of so many bits round from.
func anyPath(next func(bits int) int, from geom.Point, bits, n int) segs {
	p := segs{}
	for len(p) < n {
		kind := 1 + from0(next, 5)
		if len(p) == 0 || p[len(p)-1].Kind == 5 {
			kind = 1
		}
		s := path.Seg{Kind: kind}
		for k := range []int{1: 1, 2: 1, 3: 2, 4: 3, 5: 0}[kind] {
			s.P[k] = at(from.X+next(bits), from.Y+next(bits))
		}
		p = append(p, s)
	}
	return p
}

// anyStyle tells a right style, with dashes of so many bits at most.
func anyStyle(next func(bits int) int, bits int) style.Style {
	s := style.Style{Fill: anyPaint(next, 25), Pen: anyPaint(next, 25), Rule: 1 + from0(next, 2), Half: from0(next, 1+1<<from0(next, 16)), Cap: from0(next, 3), Opacity: from0(next, 256), Mode: from0(next, 5)}
	for range 2 * from0(next, 5) {
		s.Dash.L = append(s.Dash.L, 1+from0(next, 1<<bits))
	}
	if sum := s.Dash.Sum(); sum > 0 {
		s.Dash.Phase = from0(next, sum)
	}
	return s
}

// P16.3: any paths with any right styles, by the document's words.
func TestPiecesByWords(t *testing.T) {
	next := stepper()
	seen := map[api.Errno]int{}
	counts := map[int]int{}
	for i := range 4000 {
		bits := 3 + i%29
		s := anyStyle(next, 1+i%20)
		p := anyPath(next, at(0, 0), bits, i%12)
		depth := i % 7
		want, wantE := wantPieces(s, p, depth)
		checkStyle(t, s, api.OK)
		checkPieces(t, s, p, depth, want, wantE)
		seen[wantE]++
		counts[len(want)]++
	}
	if seen[api.OK] < 1000 || seen[api.ErrOverflow] < 50 || seen[api.ErrMany] < 50 || counts[0] < 100 || counts[1] < 100 || counts[2] < 100 {
		t.Errorf("too few of one answer: %v, %v", seen, counts)
	}
}

// P16.4: the reach is layer 7's of the half width, if there is a pen; else the box itself.
func TestReach(t *testing.T) {
	for _, c := range []struct {
		pen  style.Paint
		half int
		b    geom.Box
		want geom.Box
	}{
		{style.Plain(red), 2, box(0, 0, 4, 4), box(-4, -4, 8, 8)}, {style.Plain(color{}), 1, box(0, 1, 2, 4), box(-2, -1, 4, 6)},
		{ring(at(0, 0), at(1, 0), greys()), 32768, box(-5, -6, 7, 8), box(-65541, -65542, 65543, 65544)}, {line(at(0, 0), at(1, 0), greys()), 3, box(9, 9, 10, 10), box(3, 3, 16, 16)},
		{style.Plain(red), 0, box(0, 0, 4, 4), box(0, 0, 4, 4)}, {style.Paint{}, 2, box(0, 0, 4, 4), box(0, 0, 4, 4)}, {style.Paint{}, 0, box(0, 0, 4, 4), box(0, 0, 4, 4)},
		// An empty box has layer 7's reach with a pen, and is its own without.
		{style.Plain(red), 2, box(3, 3, 3, 9), geom.Box{}}, {style.Plain(red), 2, box(5, 5, 1, 1), geom.Box{}}, {style.Plain(red), 2, geom.Box{}, geom.Box{}},
		{style.Plain(red), 0, box(3, 3, 3, 9), box(3, 3, 3, 9)}, {style.Paint{}, 2, box(5, 5, 1, 1), box(5, 5, 1, 1)}, {style.Paint{}, 0, geom.Box{}, geom.Box{}},
		{style.Plain(red), 2, box(-far, -far, far+1, far+1), box(-far-4, -far-4, far+5, far+5)},
	} {
		for _, s := range []style.Style{full(), style.None()} {
			s.Pen, s.Half = c.pen, c.half
			if got := s.Reach(c.b); got != c.want {
				t.Errorf("Reach of %v, %v: %v, not %v", s, c.b, got, c.want)
			}
		}
	}
}

// P16.4: boxes of any size have layer 7's reach.
func TestReachOfAll(t *testing.T) {
	wild := wildInts()
	for _, half := range []int{0, 1, 2, 77, widest} {
		for _, pen := range []style.Paint{{}, style.Plain(dim), ring(at(0, 0), at(1, 0), greys())} {
			s := style.Style{Fill: style.Plain(red), Pen: pen, Rule: 1, Half: half}
			for i, x := range wild {
				for _, y := range wild {
					b := box(x, y, wild[len(wild)-1-i], y^i)
					want := b
					if half > 0 && pen.Kind > 0 {
						want = stroke.Reach(b, half)
					}
					if got := s.Reach(b); got != want {
						t.Errorf("Reach of %v, %v: %v, not %v", s, b, got, want)
					}
				}
			}
		}
	}
}

// P16.4: all that a path leaves lies in the reach of its bound, at the ends of room, too.
func TestAllLiesInReach(t *testing.T) {
	next := stepper()
	told := 0
	for i := range 4000 {
		bits := 2 + i%27
		mid := []geom.Point{at(0, 0), at(far-1<<(bits-1), 0), at(1<<(bits-1)-far, far-1<<(bits-1)), at(99, 1<<(bits-1)-far)}[i%4]
		s := anyStyle(next, min(bits, 20))
		p := anyPath(next, mid, bits, 1+i%7)
		l, e := s.Pieces(p, i%7)
		if e != api.OK {
			continue
		}
		reach := s.Reach(path.Bound(p))
		for _, piece := range l {
			for _, poly := range piece.Polys {
				for _, q := range poly {
					told++
					if !reach.Has(q) {
						t.Errorf("%v of %v, %v is not in %v", q, s, p, reach)
					}
				}
			}
		}
	}
	if told < 100000 {
		t.Errorf("only %d points", told)
	}
}

// room tells full's style with spare room behind each of its lists.
func room() style.Style {
	s := full()
	s.Fill.Stops = append(make(stops, 0, 9), s.Fill.Stops...)
	s.Pen.Stops = append(make(stops, 0, 9), s.Pen.Stops...)
	s.Dash.L = append(make([]int, 0, 9), s.Dash.L...)
	return s
}

// spare tells the lists of s with their spare room.
func spare(s style.Style) (fill, pen stops, lengths []int) {
	return s.Fill.Stops[:cap(s.Fill.Stops)], s.Pen.Stops[:cap(s.Pen.Stops)], s.Dash.L[:cap(s.Dash.L)]
}

// sameSpare tells whether all lists of s and o, their spare room too, are one.
func sameSpare(s, o style.Style) bool {
	a, b, c := spare(s)
	d, e, f := spare(o)
	return slices.Equal(a, d) && slices.Equal(b, e) && slices.Equal(c, f)
}

// corners is a path of three subpaths, with room for another one.
func corners() segs {
	p := append(make(segs, 0, 12), seg(1, at(0, 0)), seg(2, at(30, 0)), seg(3, at(30, 30), at(0, 30)), seg(5), seg(1, at(9, 9)), seg(1, at(50, 0)), seg(4, at(50, 9), at(40, 9), at(40, 20)))
	return p
}

// P16.5: what is handed in stays, its spare room too.
func TestHandedInStays(t *testing.T) {
	for n := range 8 {
		s, o, p, q := room(), room(), corners(), corners()
		p, q = p[:n], q[:n]
		for _, half := range []int{0, 5} {
			s.Half = half
			s.Check()
			s.Fill.Check()
			s.Fill.At(at(5, 5))
			s.Pen.At(at(5, 5))
			s.Equal(o)
			s.Fill.Equal(s.Pen)
			s.Pieces(p, 3)
			s.Pieces(p, 9)
			s.Reach(box(0, 0, 9, 9))
		}
		if !s.Equal(full()) || !sameSpare(s, o) || !slices.Equal(p[:cap(p)], q[:cap(q)]) {
			t.Errorf("what was handed in is now %v, %v", s, p)
		}
	}
}

// spoil writes to all that l has, its spare room too.
func spoil(l pieces) {
	for i := range l {
		spoilPiece(l[i])
	}
	clear(l[:cap(l)])
}

func spoilPiece(p style.Piece) {
	for _, poly := range p.Polys {
		spoilPoints(poly)
	}
	clear(p.Polys[:cap(p.Polys)])
	spoilStops(p.Paint.Stops)
}

func spoilPoints(l points) {
	l = l[:cap(l)]
	for i := range l {
		l[i] = at(-77777, 77777)
	}
}

func spoilStops(l stops) {
	l = l[:cap(l)]
	for i := range l {
		l[i] = paint.Stop{At: -7}
	}
}

// P16.5: what is told is new memory: no two lists of an answer share any, nor do two answers, nor does an answer and what was handed in.
func TestToldIsNew(t *testing.T) {
	for _, dashes := range []dash.Pattern{{}, {L: []int{7, 3}, Phase: 2}, {L: []int{200, 1}}} {
		for n := range 8 {
			s, o, p, q := room(), room(), corners()[:n], corners()[:n]
			s.Dash, o.Dash = dashes, dash.Pattern{L: slices.Clone(dashes.L), Phase: dashes.Phase}
			if n%2 == 1 {
				// Both paints may have the same stops, in the same memory.
				s.Pen.Stops = s.Fill.Stops
				o.Pen.Stops = slices.Clone(o.Fill.Stops[:cap(o.Fill.Stops)])[:len(o.Fill.Stops)]
			}
			want, _ := wantPieces(o, q, 2)
			l, _ := s.Pieces(p, 2)
			other, _ := s.Pieces(p, 2)
			for i := range l {
				for j, poly := range l[i].Polys {
					if !slices.Equal(poly, want[i].Polys[j]) {
						t.Errorf("polygon %d of piece %d shares memory with one ahead", j, i)
					}
					spoilPoints(poly)
				}
				if !samePaint(l[i].Paint, want[i].Paint) {
					t.Errorf("piece %d shares memory with one ahead", i)
				}
				spoilPiece(l[i])
			}
			spoil(l)
			if !samePieces(other, want) || !s.Equal(o) || !sameSpare(s, o) || !slices.Equal(p[:cap(p)], q[:cap(q)]) {
				t.Errorf("Pieces of %v, %v shares memory", s, p)
			}
		}
	}
}

// P16.5: nothing is kept: what is changed behind a call changes nothing that it told, and the next call hangs on it alone.
func TestNothingKept(t *testing.T) {
	s, p := room(), corners()
	want, _ := wantPieces(full(), corners(), 3)
	c := s.Fill.At(at(100, 100))
	l, _ := s.Pieces(p, 3)
	fill, pen, lengths := spare(s)
	spoilStops(fill)
	spoilStops(pen)
	clear(lengths)
	clear(p[:cap(p)])
	if !samePieces(l, want) || c != wantAt(full().Fill, at(100, 100)) {
		t.Errorf("what was told has changed: %v", l)
	}
	checkPieces(t, s, corners(), 3, nil, api.ErrRange)
	checkPieces(t, full(), p, 3, nil, api.ErrKind)
	checkPieces(t, full(), corners(), 3, want, api.OK)
	none := style.None()
	none.Fill, none.Rule, none.Dash.L = style.Plain(red), 2, []int{1, 2}
	if !style.None().Equal(style.Style{Rule: 1, Opacity: 255}) {
		t.Errorf("None has changed")
	}
}

// P1: every call ends, and none panics, whatever it is handed; of paints that are not right, too.
func TestWild(t *testing.T) {
	wild := wildInts()
	shades := []stops{nil, {}, greys(), {{At: most, Color: wrong}, {At: least}}, make(stops, 40), {{At: 5}, {At: 5}}}
	for i, a := range wild {
		for j, b := range wild {
			for k, c := range wild {
				p := style.Paint{Kind: (i + j + k) % 4, Color: wrong, From: at(a, b), To: at(c, a), Stops: shades[(i*j+k)%len(shades)]}
				for _, p.Color = range []color{{}, dim, wrong} {
					p.Check()
					if v := p.At(at(b, c)); !isRightColor(v) {
						t.Errorf("%v at %v: %v", p, at(b, c), v)
					}
					p.At(p.From)
					p.At(p.To)
					q := p
					q.Kind = a
					q.At(at(c, b))
					q.Check()
					p.Equal(q)
					s := style.Style{Fill: p, Pen: q, Rule: c, Half: a, Cap: b, Dash: dash.Pattern{L: []int{a, b}, Phase: c}, Opacity: b, Mode: a}
					s.Check()
					s.Equal(full())
					s.Pieces(corners(), 2)
					s.Reach(box(a, b, c, a))
					s = full()
					s.Half = a
					s.Reach(box(b, c, a, b))
					s.Pieces(segs{seg(1, at(a, b)), seg(2, at(b, c)), seg(k%7, at(c, a))}, k%9-1)
				}
			}
		}
	}
}
