package image_test

import (
	"math"
	"runtime"
	"slices"
	"testing"

	"limner/api"
	"limner/geom"
	"limner/image"
	"limner/paint"
)

const least, most = math.MinInt, math.MaxInt

type (
	img    = image.Image
	color  = paint.Color
	colors = []paint.Color
)

var (
	none  = color{}
	red   = color{255, 0, 0, 255}
	green = color{0, 200, 0, 200}
	half  = color{0, 0, 128, 128}
	white = color{255, 255, 255, 255}
)

func box(x0, y0, x1, y1 int) geom.Box { return geom.Box{X0: x0, Y0: y0, X1: x1, Y1: y1} }

// wildInts are ints at the ends of what calls are promised something of, and far beyond.
func wildInts() []int {
	return []int{least, least + 1, least + 255, least + 256, -1 << 62, -1 << 32, -257, -256, -255, -3, -2, -1, 0, 1, 2, 3, 4, 5, 255, 256, 257,
		1 << 31, 1 << 32, 1<<32 + 1, 1 << 62, most - 256, most - 255, most - 1, most}
}

// stepper tells numbers that look like chance, the same in every run: from 0 up to n - 1.
func stepper() func(n int) int {
	state := uint64(0x9e3779b97f4a7c15)
	return func(n int) int {
		state ^= state << 13
		state ^= state >> 7
		state ^= state << 17
		return int((state >> 33) % uint64(n))
	}
}

// rightColor tells some colour that is right.
func rightColor(next func(n int) int) color {
	a := next(256)
	return color{byte(next(a + 1)), byte(next(a + 1)), byte(next(a + 1)), byte(a)}
}

// anyImage tells an image of some of these colours.
func anyImage(next func(n int) int, w, h int, of ...color) img {
	m := img{W: w, H: h, Pix: make(colors, w*h)}
	for i := range m.Pix {
		m.Pix[i] = of[next(len(of))]
	}
	return m
}

// manyImage tells an image of many colours.
func manyImage(next func(n int) int, w, h int) img {
	m := img{W: w, H: h, Pix: make(colors, w*h)}
	for i := range m.Pix {
		m.Pix[i] = rightColor(next)
	}
	return m
}

// plain tells an image of one colour.
func plain(w, h int, c color) img { return img{W: w, H: h, Pix: slices.Repeat(colors{c}, w*h)} }

// of tells an image w pixels wide with these.
func of(w int, l ...color) img { return img{W: w, H: len(l) / w, Pix: l} }

// wrongImages are images that are not right, each in one way.
func wrongImages() []img {
	wrongPixel := func(i int, c color) img {
		m := plain(3, 2, white)
		m.Pix[i] = c
		return m
	}
	return []img{
		{}, {W: 1}, {H: 1}, {W: 1, H: 1}, {W: 0, H: 2}, {W: 2, H: 0},
		{Pix: colors{none}}, {W: 0, H: 1, Pix: colors{none}}, {W: 1, H: 0, Pix: colors{none}},
		{W: -1, H: -1, Pix: colors{none}}, {W: -2, H: -3, Pix: make(colors, 6)}, {W: -2, H: 3, Pix: make(colors, 6)}, {W: 2, H: -3, Pix: make(colors, 6)},
		plain(257, 1, none), plain(1, 257, none), plain(257, 257, none),
		{W: 3, H: 2, Pix: make(colors, 5)}, {W: 3, H: 2, Pix: make(colors, 7)}, {W: 3, H: 2, Pix: make(colors, 12)}, {W: 3, H: 2},
		// Their sides' products wrap.
		{W: 1 << 32, H: 1 << 32}, {W: least, H: 2}, {W: 2, H: least}, {W: 1<<32 + 1, H: 1<<32 - 1, Pix: make(colors, 1)}, {W: most, H: most, Pix: make(colors, 1)},
		{W: 256, H: 1<<56 + 1, Pix: make(colors, 256)},
		wrongPixel(0, color{1, 0, 0, 0}), wrongPixel(0, color{0, 255, 0, 254}), wrongPixel(2, color{5, 5, 6, 5}), wrongPixel(3, color{6, 5, 5, 5}), wrongPixel(5, color{0, 0, 128, 127}), wrongPixel(5, color{0, 1, 0, 0}),
	}
}

func same(m, o img) bool { return m.W == o.W && m.H == o.H && slices.Equal(m.Pix, o.Pix) }

// check holds an image and an error against those that are wanted; beside an error the zero image.
func check(t *testing.T, what string, got img, e api.Errno, want img, wantE api.Errno) {
	t.Helper()
	if wantE != api.OK {
		want = img{}
	}
	if e != wantE || !same(got, want) {
		t.Fatalf("%s: %d by %d, %v, %d; not %d by %d, %v, %d", what, got.W, got.H, some(got.Pix), e, want.W, want.H, some(want.Pix), wantE)
	}
}

// some tells as many pixels as one may like to read.
func some(l colors) colors { return l[:min(len(l), 30)] }

func isSide(n int) bool { return n >= 1 && n <= 256 }

// P11.1: New, of all sorts of sides.
func TestNew(t *testing.T) {
	sides := append(wildInts(), 7, 100, 254)
	for _, w := range sides {
		for _, h := range sides {
			m, e := image.New(w, h)
			if !isSide(w) || !isSide(h) {
				check(t, "New", m, e, img{}, api.ErrRange)
				continue
			}
			check(t, "New", m, e, plain(w, h, none), api.OK)
			if m.Check() != api.OK || m.Count(none) != w*h {
				t.Errorf("New(%d, %d): check %d, %d with nothing", w, h, m.Check(), m.Count(none))
			}
		}
	}
}

// P11.1: Check, of images that are right, and of others.
func TestCheck(t *testing.T) {
	next := stepper()
	for _, m := range []img{
		plain(1, 1, none), plain(256, 1, white), plain(1, 256, color{5, 5, 5, 5}), plain(256, 256, half),
		of(3, none, red, green, half, white, color{0, 0, 0, 255}), manyImage(next, 17, 30), manyImage(next, 256, 255),
	} {
		if e := m.Check(); e != api.OK {
			t.Errorf("Check of %d by %d, %v: %d", m.W, m.H, some(m.Pix), e)
		}
	}
	for _, m := range wrongImages() {
		if e := m.Check(); e != api.ErrRange {
			t.Errorf("Check of %d by %d, %v: %d", m.W, m.H, some(m.Pix), e)
		}
	}
}

// P11.1: Check finds the one pixel that is not right, wherever it is.
func TestCheckEachPixel(t *testing.T) {
	m := plain(7, 5, color{4, 4, 4, 4})
	for i := range m.Pix {
		for k := range 3 {
			m.Pix[i][k] = 5
			if e := m.Check(); e != api.ErrRange {
				t.Errorf("Check with %v at %d: %d", m.Pix[i], i, e)
			}
			m.Pix[i][k] = 4
		}
	}
}

func checkAt(t *testing.T, m img, x, y int, want color, ok bool) {
	t.Helper()
	if got, k := m.At(x, y); got != want || k != ok {
		t.Errorf("At(%d, %d) of %d by %d: %v, %t; not %v, %t", x, y, m.W, m.H, got, k, want, ok)
	}
}

// P11.1: At tells all pixels, row by row, and none beside them.
func TestAt(t *testing.T) {
	next := stepper()
	for _, m := range []img{of(3, red, green, half, white, color{1, 1, 1, 1}, color{2, 2, 2, 2}), of(1, red), of(1, red, green, half), of(3, red, green, half), manyImage(next, 5, 4), manyImage(next, 256, 256)} {
		places := append(wildInts(), m.W-1, m.H-1, m.W, m.H, 10, 100, 200)
		for _, x := range places {
			for _, y := range places {
				if x >= 0 && x < m.W && y >= 0 && y < m.H {
					checkAt(t, m, x, y, m.Pix[y*m.W+x], true)
				} else {
					checkAt(t, m, x, y, none, false)
				}
			}
		}
	}
}

// P11.1: an image that is not right has those pixels that are there.
func TestAtOfWrong(t *testing.T) {
	m := img{W: 3, H: 3, Pix: colors{red, green, half, white, color{9, 0, 0, 0}}}
	checkAt(t, m, 0, 0, red, true)
	checkAt(t, m, 2, 0, half, true)
	checkAt(t, m, 1, 1, color{9, 0, 0, 0}, true)
	for _, p := range []geom.Point{{X: 2, Y: 1}, {X: 0, Y: 2}, {X: 2, Y: 2}, {X: 3, Y: 0}, {X: 0, Y: 3}, {X: -1, Y: 1}} {
		checkAt(t, m, p.X, p.Y, none, false)
	}
	for _, m := range wrongImages() {
		for _, x := range wildInts() {
			for _, y := range wildInts() {
				m.At(x, y)
			}
		}
	}
	checkAt(t, img{W: 1 << 32, H: 1 << 32, Pix: colors{red}}, 0, 1<<31, none, false)
	checkAt(t, img{W: 1 << 62, H: 1 << 62, Pix: colors{red}}, 0, 4, none, false)
	checkAt(t, img{W: most, H: most, Pix: colors{red, green}}, 1, 0, green, true)
	checkAt(t, img{W: most, H: most, Pix: colors{red, green}}, 2, 1, none, false)
}

// P11.1: its box, of any image.
func TestBox(t *testing.T) {
	for _, m := range append(wrongImages(), plain(1, 1, red), plain(3, 2, red), plain(256, 1, red), plain(1, 256, red)) {
		if got := m.Box(); got != box(0, 0, m.W, m.H) {
			t.Errorf("Box of %d by %d: %v", m.W, m.H, got)
		}
	}
}

func checkEqual(t *testing.T, m, o img, want bool) {
	t.Helper()
	if a, b := m.Equal(o), o.Equal(m); a != want || b != want {
		t.Errorf("Equal of %d by %d, %v, and %d by %d, %v: %t, the other way %t", m.W, m.H, some(m.Pix), o.W, o.H, some(o.Pix), a, b)
	}
}

// P11.1: images are one, if their sides are, and all numbers of all pixels.
func TestEqual(t *testing.T) {
	m := manyImage(stepper(), 4, 3)
	checkEqual(t, m, m, true)
	checkEqual(t, m, img{W: 4, H: 3, Pix: slices.Clone(m.Pix)}, true)
	for i := range m.Pix {
		for k := range 4 {
			o := img{W: 4, H: 3, Pix: slices.Clone(m.Pix)}
			o.Pix[i][k] ^= 1
			checkEqual(t, m, o, false)
		}
	}
	for _, side := range []img{{W: 3, H: 4}, {W: 12, H: 1}, {W: 2, H: 6}, {W: 4, H: 4}, {W: 5, H: 3}} {
		side.Pix = m.Pix
		checkEqual(t, m, side, false)
	}
	checkEqual(t, m, img{W: 4, H: 3, Pix: m.Pix[:11]}, false)
	checkEqual(t, m, img{W: 4, H: 2, Pix: m.Pix[:8]}, false)
	checkEqual(t, img{}, img{Pix: colors{}}, true)
	checkEqual(t, img{}, img{Pix: colors{none}}, false)
	checkEqual(t, img{}, img{W: 1}, false)
	l := wrongImages()
	for i, a := range l {
		for k, b := range l {
			checkEqual(t, a, b, i == k)
		}
	}
}

func checkCount(t *testing.T, m img, c color, want int) {
	t.Helper()
	if got := m.Count(c); got != want {
		t.Errorf("Count(%v) of %v: %d, not %d", c, some(m.Pix), got, want)
	}
}

// P11.1: Count, of colours that are there, and of others; all four numbers count.
func TestCount(t *testing.T) {
	m := of(3, red, none, red, half, green, none, none, color{255, 0, 0, 255}, color{255, 0, 1, 255})
	for c, want := range map[color]int{red: 3, none: 3, half: 1, green: 1, white: 0, {255, 0, 1, 255}: 1, {255, 0, 0, 254}: 0, {254, 0, 0, 255}: 0, {0, 1, 128, 128}: 0} {
		checkCount(t, m, c, want)
	}
	checkCount(t, img{}, none, 0)
	checkCount(t, plain(256, 256, half), half, 65536)
	checkCount(t, plain(256, 256, half), none, 0)
	checkCount(t, img{W: 9, H: 9, Pix: colors{red, color{9, 0, 0, 0}, red}}, red, 2)
	checkCount(t, img{W: 9, H: 9, Pix: colors{red, color{9, 0, 0, 0}, red}}, color{9, 0, 0, 0}, 1)
}

// someBoxes are boxes in, about and around an image so wide and high, empty and upside down ones among them.
func someBoxes(w, h int) []geom.Box {
	var l []geom.Box
	for x0 := -2; x0 <= w+2; x0++ {
		for x1 := -2; x1 <= w+2; x1++ {
			for y0 := -2; y0 <= h+2; y0++ {
				for y1 := -2; y1 <= h+2; y1++ {
					l = append(l, box(x0, y0, x1, y1))
				}
			}
		}
	}
	for _, a := range []int{least, -1 << 32, 0, 1, 1 << 32, most} {
		for _, b := range []int{least, -1 << 32, 0, 1, 2, 1 << 32, most} {
			l = append(l, box(a, a, b, b), box(a, 0, b, h), box(0, a, w, b), box(a, b, b, a))
		}
	}
	return l
}

// each tells m with what change makes of each pixel.
func each(m img, change func(x, y int, c color) color) img {
	o := img{W: m.W, H: m.H}
	for y := range m.H {
		for x := range m.W {
			o.Pix = append(o.Pix, change(x, y, m.Pix[y*m.W+x]))
		}
	}
	return o
}

func lies(x, y int, b geom.Box) bool { return b.X0 <= x && x < b.X1 && b.Y0 <= y && y < b.Y1 }

// P11.2: Fill, of all boxes in and about small images, pixel by pixel.
func TestFill(t *testing.T) {
	next := stepper()
	for _, m := range []img{of(1, red), manyImage(next, 3, 2), manyImage(next, 2, 3), manyImage(next, 5, 1), manyImage(next, 1, 5)} {
		for _, b := range someBoxes(m.W, m.H) {
			for _, c := range []color{none, half} {
				got, e := m.Fill(b, c)
				want := each(m, func(x, y int, d color) color {
					if lies(x, y, b) {
						return c
					}
					return d
				})
				check(t, "Fill", got, e, want, api.OK)
			}
		}
	}
	big := plain(256, 256, red)
	got, e := big.Fill(box(1, 1, 255, 256), white)
	check(t, "Fill", got, e, each(big, func(x, y int, d color) color {
		if x >= 1 && x < 255 && y >= 1 {
			return white
		}
		return d
	}), api.OK)
}

// P11.2: Fill refuses images and colours that are not right, with any box.
func TestFillRefuses(t *testing.T) {
	boxes := []geom.Box{{}, box(0, 0, 1, 1), box(-9, -9, 9, 9), box(50, 50, 60, 60), box(1, 1, 0, 0)}
	for _, b := range boxes {
		for _, m := range wrongImages() {
			got, e := m.Fill(b, red)
			check(t, "Fill of a wrong one", got, e, img{}, api.ErrRange)
		}
		for _, c := range []color{{1, 0, 0, 0}, {0, 1, 0, 0}, {0, 0, 1, 0}, {255, 255, 255, 254}, {3, 4, 3, 3}} {
			got, e := plain(2, 2, red).Fill(b, c)
			check(t, "Fill with a wrong one", got, e, img{}, api.ErrRange)
		}
	}
}

// wantLay tells by the document's words what is seen of o over m, pixel by pixel of m.
func wantLay(t *testing.T, m, o img, x, y int, by byte, mode int) img {
	t.Helper()
	if min(x, y) < -256 || max(x, y) > 256 {
		// No image reaches so far.
		return m
	}
	return each(m, func(i, k int, c color) color {
		if !lies(i, k, box(x, y, x+o.W, y+o.H)) {
			return c
		}
		laid, e := o.Pix[(k-y)*o.W+i-x].Fade(by).Blend(c, mode)
		if e != api.OK {
			t.Fatalf("Blend: %d", e)
		}
		return laid
	})
}

func checkLay(t *testing.T, m, o img, x, y int, by byte, mode int, want img, wantE api.Errno) {
	t.Helper()
	got, e := m.Lay(o, x, y, by, mode)
	check(t, "Lay", got, e, want, wantE)
}

// P11.2: Lay, worked out by hand.
func TestLayByHand(t *testing.T) {
	m := of(3, red, none, green, half, white, none)
	o := of(2, half, red, none, white)
	// Red with half of blue over it.
	mixed := color{127, 0, 128, 255}
	checkLay(t, m, o, 0, 0, 255, 0, of(3, mixed, red, green, half, white, none), api.OK)
	checkLay(t, m, o, 1, 0, 255, 0, of(3, red, half, red, half, white, white), api.OK)
	checkLay(t, m, o, 2, 1, 255, 0, of(3, red, none, green, half, white, half), api.OK)
	checkLay(t, m, o, -1, -1, 255, 0, of(3, white, none, green, half, white, none), api.OK)
	checkLay(t, m, o, -1, 0, 255, 0, of(3, red, none, green, white, white, none), api.OK)
	checkLay(t, m, o, 0, -1, 255, 0, of(3, red, white, green, half, white, none), api.OK)
	checkLay(t, m, o, 3, 0, 255, 0, m, api.OK)
	checkLay(t, m, o, 0, 2, 255, 0, m, api.OK)
	checkLay(t, m, o, -2, 0, 255, 0, m, api.OK)
	checkLay(t, m, o, 0, -2, 255, 0, m, api.OK)
	checkLay(t, m, o, 0, 0, 0, 0, m, api.OK)
	// 128 of 255 of red is 128, of 128 it is 64; over red 191 of 255 stay.
	checkLay(t, m, o, 0, 0, 128, 0, of(3, color{191, 0, 64, 255}, color{128, 0, 0, 128}, green, half, white, none), api.OK)
	// By multiply: white stays below what is white, red below nothing and red below red; half of blue over red is half of it black.
	checkLay(t, m, o, 0, 0, 255, 1, of(3, color{127, 0, 0, 255}, red, green, half, white, none), api.OK)
	checkLay(t, m, of(1, white), 0, 0, 255, 2, of(3, white, none, green, half, white, none), api.OK)
	checkLay(t, of(1, color{200, 100, 0, 255}), of(1, color{100, 200, 50, 255}), 0, 0, 255, 3, of(1, color{100, 100, 0, 255}), api.OK)
	checkLay(t, of(1, color{200, 100, 0, 255}), of(1, color{100, 200, 50, 255}), 0, 0, 255, 4, of(1, color{200, 200, 50, 255}), api.OK)
}

// P11.2: Lay at all places where images meet and about, in all modes, faded; and the other one may be greater.
func TestLay(t *testing.T) {
	next := stepper()
	for _, s := range [][4]int{{1, 1, 1, 1}, {3, 2, 2, 2}, {2, 3, 4, 1}, {2, 2, 5, 6}, {4, 4, 1, 3}, {5, 4, 5, 4}} {
		m, o := manyImage(next, s[0], s[1]), manyImage(next, s[2], s[3])
		for x := -o.W - 2; x <= m.W+2; x++ {
			for y := -o.H - 2; y <= m.H+2; y++ {
				for mode := range 5 {
					for _, by := range []byte{0, 1, 127, 128, 254, 255, byte(next(256))} {
						checkLay(t, m, o, x, y, by, mode, wantLay(t, m, o, x, y, by, mode), api.OK)
					}
				}
			}
		}
	}
}

// P11.2: Lay of images as great as they may be, which meet in a line, a corner, or not.
func TestLayGreat(t *testing.T) {
	next := stepper()
	m, o := manyImage(next, 256, 256), manyImage(next, 256, 256)
	for _, x := range []int{-257, -256, -255, -1, 0, 255, 256, 257} {
		for _, y := range []int{-256, -255, 0, 1, 255, 256} {
			checkLay(t, m, o, x, y, 200, 0, wantLay(t, m, o, x, y, 200, 0), api.OK)
		}
	}
	long, high := manyImage(next, 256, 1), manyImage(next, 1, 256)
	for n := -257; n <= 257; n++ {
		checkLay(t, long, o, n, -3, 255, 4, wantLay(t, long, o, n, -3, 255, 4), api.OK)
		checkLay(t, high, long, -7, n, 255, 3, wantLay(t, high, long, -7, n, 255, 3), api.OK)
	}
}

// P11.2: Lay from far away leaves all as it is, and wraps nothing round.
func TestLayFar(t *testing.T) {
	next := stepper()
	m, o := manyImage(next, 256, 256), plain(256, 256, red)
	small := plain(1, 1, red)
	for _, x := range wildInts() {
		for _, y := range wildInts() {
			if x > -256 && x < 256 && y > -256 && y < 256 {
				continue
			}
			checkLay(t, m, o, x, y, 255, 0, m, api.OK)
			checkLay(t, m, small, x, y, 255, 0, m, api.OK)
		}
	}
}

// P11.2: Lay refuses images that are not right, and then modes that are none, wherever the images lie.
func TestLayRefuses(t *testing.T) {
	m, o := plain(3, 2, red), plain(2, 2, half)
	for _, at := range []int{0, 1, 500, least} {
		for _, mode := range append(wildInts(), 6, 1<<32+4) {
			for _, by := range []byte{0, 255} {
				for _, wrong := range wrongImages() {
					checkLay(t, wrong, o, at, at, by, mode, img{}, api.ErrRange)
					checkLay(t, m, wrong, at, at, by, mode, img{}, api.ErrRange)
				}
				if mode < 0 || mode > 4 {
					checkLay(t, m, o, at, at, by, mode, img{}, api.ErrKind)
				} else {
					checkLay(t, m, o, at, at, by, mode, wantLay(t, m, o, at, at, by, mode), api.OK)
				}
			}
		}
	}
}

// P11.2: an image may be laid over itself, and what is laid is what it was.
func TestLayItself(t *testing.T) {
	m := manyImage(stepper(), 4, 4)
	apart := img{W: 4, H: 4, Pix: slices.Clone(m.Pix)}
	for x := -4; x <= 4; x++ {
		for y := -4; y <= 4; y++ {
			checkLay(t, m, m, x, y, 255, 0, wantLay(t, apart, apart, x, y, 255, 0), api.OK)
		}
	}
}

// P11.2: Crop, of all boxes in and about small images, pixel by pixel.
func TestCrop(t *testing.T) {
	next := stepper()
	for _, m := range []img{of(1, red), manyImage(next, 3, 2), manyImage(next, 2, 3), manyImage(next, 5, 1), manyImage(next, 4, 4)} {
		for _, b := range someBoxes(m.W, m.H) {
			got, e := m.Crop(b)
			if b.X0 < 0 || b.Y0 < 0 || b.X1 > m.W || b.Y1 > m.H || b.X0 >= b.X1 || b.Y0 >= b.Y1 {
				check(t, "Crop", got, e, img{}, api.ErrRange)
				continue
			}
			want := img{W: b.X1 - b.X0, H: b.Y1 - b.Y0}
			for y := b.Y0; y < b.Y1; y++ {
				for x := b.X0; x < b.X1; x++ {
					want.Pix = append(want.Pix, m.Pix[y*m.W+x])
				}
			}
			check(t, "Crop", got, e, want, api.OK)
			if got.Check() != api.OK {
				t.Errorf("Crop(%v): not right", b)
			}
		}
	}
	big := manyImage(next, 256, 256)
	got, e := big.Crop(big.Box())
	check(t, "Crop", got, e, big, api.OK)
	got, e = big.Crop(box(0, 255, 256, 256))
	check(t, "Crop", got, e, img{W: 256, H: 1, Pix: big.Pix[255*256:]}, api.OK)
}

// P11.2: Crop refuses images that are not right.
func TestCropRefuses(t *testing.T) {
	for _, m := range wrongImages() {
		for _, b := range []geom.Box{{}, box(0, 0, 1, 1), m.Box(), box(0, 0, 3, 2)} {
			got, e := m.Crop(b)
			check(t, "Crop of a wrong one", got, e, img{}, api.ErrRange)
		}
	}
}

func checkDiff(t *testing.T, m, o img, want geom.Box, wantE api.Errno) {
	t.Helper()
	a, e := m.Diff(o)
	b, f := o.Diff(m)
	if a != want || e != wantE || b != want || f != wantE {
		t.Fatalf("Diff of %v and %v: %v, %d, the other way %v, %d; not %v, %d", some(m.Pix), some(o.Pix), a, e, b, f, want, wantE)
	}
}

// P11.3: Diff of images that differ in one pixel, by one number, and in two.
func TestDiff(t *testing.T) {
	m := plain(5, 4, half)
	checkDiff(t, m, m, geom.Box{}, api.OK)
	checkDiff(t, m, plain(5, 4, half), geom.Box{}, api.OK)
	checkDiff(t, m, plain(5, 4, red), box(0, 0, 5, 4), api.OK)
	for i := range m.Pix {
		for _, c := range []color{{1, 0, 128, 128}, {0, 1, 128, 128}, {0, 0, 127, 128}, {0, 0, 128, 129}} {
			o := plain(5, 4, half)
			o.Pix[i] = c
			x, y := i%5, i/5
			checkDiff(t, m, o, box(x, y, x+1, y+1), api.OK)
			for k := range i {
				two := img{W: 5, H: 4, Pix: slices.Clone(o.Pix)}
				two.Pix[k] = none
				u, v := k%5, k/5
				checkDiff(t, m, two, box(min(x, u), min(y, v), max(x, u)+1, max(y, v)+1), api.OK)
			}
		}
	}
}

// P11.3: Diff of images that differ in any pixels.
func TestDiffOfMany(t *testing.T) {
	next := stepper()
	for range 2000 {
		w, h := 1+next(12), 1+next(12)
		m := anyImage(next, w, h, red, green)
		o := img{W: w, H: h, Pix: slices.Clone(m.Pix)}
		want := geom.Box{}
		for range next(5) {
			x, y := next(w), next(h)
			o.Pix[y*w+x] = white
			if want == (geom.Box{}) {
				want = box(x, y, x+1, y+1)
			}
			want = box(min(want.X0, x), min(want.Y0, y), max(want.X1, x+1), max(want.Y1, y+1))
		}
		checkDiff(t, m, o, want, api.OK)
	}
	big, other := plain(256, 256, red), plain(256, 256, red)
	other.Pix[0], other.Pix[65535] = none, none
	checkDiff(t, big, other, box(0, 0, 256, 256), api.OK)
}

// P11.3: Diff refuses images that are not right, and those of other sides.
func TestDiffRefuses(t *testing.T) {
	m := plain(3, 2, red)
	for _, o := range append(wrongImages(), plain(2, 3, red), plain(3, 3, red), plain(2, 2, red), plain(6, 1, red), plain(1, 1, red)) {
		checkDiff(t, m, o, geom.Box{}, api.ErrRange)
	}
	for _, o := range wrongImages() {
		checkDiff(t, o, o, geom.Box{}, api.ErrRange)
	}
}

// run is a run's bytes.
func run(n int, c color) string { return string([]byte{byte(n - 1), c[0], c[1], c[2], c[3]}) }

func checkBytes(t *testing.T, m img, want string) {
	t.Helper()
	b, e := m.Bytes()
	if e != api.OK || string(b) != want {
		t.Fatalf("Bytes of %d by %d, %v: %x, %d; not %x", m.W, m.H, some(m.Pix), b, e, want)
	}
	got, e := image.Parse([]byte(want))
	check(t, "Parse", got, e, m, api.OK)
}

// P11.4: bytes, worked out by hand: a run goes on in the next row, and ends with 256 pixels.
func TestBytesByHand(t *testing.T) {
	checkBytes(t, plain(3, 2, none), "\x02\x01\x05\x00\x00\x00\x00")
	checkBytes(t, of(1, color{1, 2, 3, 4}), "\x00\x00\x00\x01\x02\x03\x04")
	checkBytes(t, of(2, red, none, none, none, half, half), "\x01\x02"+run(1, red)+run(3, none)+run(2, half))
	checkBytes(t, of(3, none, none, none, none, half, none), "\x02\x01"+run(4, none)+run(1, half)+run(1, none))
	checkBytes(t, of(2, color{1, 1, 1, 1}, color{1, 1, 1, 2}, color{1, 1, 0, 2}, color{1, 0, 0, 2}), "\x01\x01"+run(1, color{1, 1, 1, 1})+run(1, color{1, 1, 1, 2})+run(1, color{1, 1, 0, 2})+run(1, color{1, 0, 0, 2}))
	checkBytes(t, plain(255, 1, red), "\xfe\x00"+run(255, red))
	checkBytes(t, plain(256, 1, red), "\xff\x00"+run(256, red))
	checkBytes(t, plain(1, 256, red), "\x00\xff"+run(256, red))
	checkBytes(t, plain(64, 4, red), "\x3f\x03"+run(256, red))
	checkBytes(t, plain(2, 129, red), "\x01\x80"+run(256, red)+run(2, red))
	all := "\xff\xff"
	for range 256 {
		all += run(256, none)
	}
	checkBytes(t, plain(256, 256, none), all)
}

// wantBytes tells by the document's words the bytes of a right image.
func wantBytes(m img) string {
	b := []byte{byte(m.W - 1), byte(m.H - 1)}
	many := 0
	for i, c := range m.Pix {
		many++
		if i+1 == len(m.Pix) || m.Pix[i+1] != c || many == 256 {
			b = append(b, run(many, c)...)
			many = 0
		}
	}
	return string(b)
}

// P11.4: images of all sorts to bytes, and back.
func TestBytes(t *testing.T) {
	next := stepper()
	for range 3000 {
		w, h := 1+next(20), 1+next(20)
		for _, m := range []img{manyImage(next, w, h), anyImage(next, w, h, red, none), anyImage(next, w, h, half, half, half, half, half, half, half, green)} {
			checkBytes(t, m, wantBytes(m))
		}
	}
	for _, side := range [][2]int{{1, 1}, {1, 256}, {256, 1}, {256, 256}, {255, 256}, {3, 256}} {
		for _, m := range []img{plain(side[0], side[1], half), manyImage(next, side[0], side[1]), anyImage(next, side[0], side[1], red, none)} {
			checkBytes(t, m, wantBytes(m))
		}
	}
}

// P11.4: images with runs of all lengths, which begin anywhere.
func TestBytesOfRuns(t *testing.T) {
	for n := 1; n <= 600; n++ {
		for _, ahead := range []int{0, 1, 2, 255, 256, 257} {
			m := img{W: 100, H: 10, Pix: slices.Repeat(colors{white}, 1000)}
			copy(m.Pix, slices.Repeat(colors{half}, ahead))
			copy(m.Pix[min(ahead, 1000):], slices.Repeat(colors{red}, n))
			checkBytes(t, m, wantBytes(m))
		}
	}
}

// P11.4: images that are not right have no bytes.
func TestBytesRefuses(t *testing.T) {
	for _, m := range wrongImages() {
		if b, e := m.Bytes(); len(b) != 0 || e != api.ErrRange {
			t.Errorf("Bytes of %d by %d, %v: %x, %d", m.W, m.H, some(m.Pix), b, e)
		}
	}
}

func checkNone(t *testing.T, b string) {
	t.Helper()
	got, e := image.Parse([]byte(b))
	check(t, "Parse of what is none", got, e, img{}, api.ErrForm)
}

// P11.4: Parse refuses what is too short, too long, told by other runs, or not right.
func TestParseRefuses(t *testing.T) {
	for _, b := range []string{
		"", "\x00", "\x00\x00", "\xff\xff", "\x00\x00\x00\x00\x00\x00",
		// Too many pixels, and too few.
		"\x00\x00" + run(2, red), "\x00\x00" + run(1, red) + run(1, green), "\x00\x00" + run(256, red), "\x01\x00" + run(1, red), "\x01\x01" + run(1, red) + run(2, green),
		"\x01\x01" + run(1, red) + run(4, green), "\xff\x00" + run(255, red), "\xff\x00" + run(256, red) + run(1, none),
		// Something behind the last run.
		"\x00\x00" + run(1, red) + "\x00", "\x00\x00" + run(1, red) + "\x00\x00\x00\x00", "\x02\x01" + run(6, none) + run(1, none),
		// Runs that might be longer.
		"\x01\x00" + run(1, red) + run(1, red), "\x02\x01" + run(5, none) + run(1, none), "\x02\x01" + run(2, red) + run(2, none) + run(2, none),
		"\xff\x01" + run(255, red) + run(256, red) + run(1, red), "\xff\x01" + run(256, red) + run(255, red) + run(1, red), "\x00\xff" + run(128, red) + run(128, red),
		// Colours that are not right.
		"\x00\x00" + run(1, color{1, 0, 0, 0}), "\x00\x00" + run(1, color{0, 9, 0, 8}), "\x02\x00" + run(1, red) + run(1, color{0, 0, 255, 254}) + run(1, red), "\x02\x00" + run(2, red) + run(1, color{0, 0, 1, 0}),
	} {
		checkNone(t, b)
	}
}

// P11.4: what is cut off, or goes on, is no image.
func TestParseParts(t *testing.T) {
	next := stepper()
	for _, m := range []img{plain(3, 2, none), plain(256, 3, half), manyImage(next, 3, 3), anyImage(next, 30, 30, red, none, none)} {
		b := wantBytes(m)
		for n := range len(b) {
			checkNone(t, b[:n])
		}
		for n := 1; n < 12; n++ {
			checkNone(t, b+string(make([]byte, n)))
			checkNone(t, b+b[:min(n, len(b))])
		}
		checkNone(t, b+b)
		checkNone(t, b+b[2:])
	}
}

// eachRuns hands over the bytes of all lists of up to so many of these runs.
func eachRuns(ahead string, many int, runs []string, do func(b string)) {
	do(ahead)
	if many == 0 {
		return
	}
	for _, r := range runs {
		eachRuns(ahead+r, many-1, runs, do)
	}
}

// eachImage hands over all images of these colours, so wide and high.
func eachImage(w, h int, of colors, do func(m img)) {
	m := img{W: w, H: h, Pix: make(colors, w*h)}
	var put func(i int)
	put = func(i int) {
		if i == len(m.Pix) {
			do(m)
			return
		}
		for _, c := range of {
			m.Pix[i] = c
			put(i + 1)
		}
	}
	put(0)
}

// P11.4: of all runs of few pixels those are taken that are an image's bytes, and no others.
func TestParseAll(t *testing.T) {
	images := map[string]img{}
	for w := 1; w <= 3; w++ {
		for h := 1; h <= 2; h++ {
			eachImage(w, h, colors{red, none}, func(m img) {
				images[wantBytes(m)] = img{W: w, H: h, Pix: slices.Clone(m.Pix)}
			})
		}
	}
	var runs []string
	for n := 1; n <= 4; n++ {
		runs = append(runs, run(n, red), run(n, none))
	}
	runs = append(runs, run(1, color{0, 0, 9, 8}), run(256, red))
	found := 0
	for _, sides := range []string{"\x00\x00", "\x01\x00", "\x02\x00", "\x00\x01", "\x01\x01"} {
		eachRuns(sides, 4, runs, func(b string) {
			got, e := image.Parse([]byte(b))
			if want, ok := images[b]; ok {
				found++
				check(t, "Parse", got, e, want, api.OK)
			} else {
				check(t, "Parse of what is none", got, e, img{}, api.ErrForm)
			}
		})
	}
	// All images but those of six pixels: these need more runs.
	if want := 2 + 4 + 8 + 4 + 16; found != want {
		t.Errorf("%d images, not %d", found, want)
	}
}

// P11.4: any other byte in an image's bytes makes another image of them, or none.
func TestParseOtherBytes(t *testing.T) {
	b := wantBytes(of(3, red, red, half, none, none, none))
	for i := range len(b) {
		for n := range 256 {
			other := []byte(b)
			other[i] = byte(n)
			m, e := image.Parse(other)
			if e == api.ErrForm {
				check(t, "Parse", m, e, img{}, api.ErrForm)
				continue
			}
			if e != api.OK || m.Check() != api.OK || wantBytes(m) != string(other) {
				t.Errorf("Parse(%x): %v, %d", other, m, e)
			}
		}
	}
}

// P11.4: Parse of a great many bytes needs no more room than an image may.
func TestParseGreat(t *testing.T) {
	runs := string(slices.Repeat([]byte(run(256, red)+run(256, none)), 1<<16))
	single := string(slices.Repeat([]byte(run(1, red)+run(1, none)), 1<<21))
	for _, b := range []string{"\xff\xff" + runs, "\xff\xff" + single, "\xff\x00" + runs, "\x00\x00" + single} {
		l := []byte(b)
		var ahead, behind runtime.MemStats
		runtime.ReadMemStats(&ahead)
		got, e := image.Parse(l)
		runtime.ReadMemStats(&behind)
		check(t, "Parse of too much", got, e, img{}, api.ErrForm)
		if room := behind.TotalAlloc - ahead.TotalAlloc; room > 1<<23 {
			t.Errorf("Parse of %d bytes took %d bytes of room", len(l), room)
		}
	}
}

// roomy is an image with spare room ahead of its pixels, and behind them.
type roomy struct {
	img
	all, kept colors
}

func newRoomy(m img) *roomy {
	mark := color{7, 7, 7, 9}
	all := slices.Concat(slices.Repeat(colors{mark}, 3), m.Pix, slices.Repeat(colors{mark}, 70000))
	r := &roomy{img: m, all: all, kept: slices.Clone(all)}
	r.Pix = all[3 : 3+len(m.Pix)]
	return r
}

// checkStays tells of memory that was handed in and is not what it was.
func (r *roomy) checkStays(t *testing.T, what string) {
	t.Helper()
	if !slices.Equal(r.all, r.kept) {
		t.Errorf("%s: what was handed in has changed", what)
		copy(r.all, r.kept)
	}
}

func spoil(l colors) {
	for i := range l {
		l[i] = color{1, 2, 3, 99}
	}
}

// P11.2, P11.3, P11.4, P11.5: what is handed in stays, its spare room too, and shares nothing with what is told.
func TestMemory(t *testing.T) {
	next := stepper()
	start, laid := manyImage(next, 4, 3), manyImage(next, 2, 3)
	m, o := newRoomy(start), newRoomy(laid)
	for what, call := range map[string]func() (img, api.Errno){
		"Fill of all":     func() (img, api.Errno) { return m.Fill(m.Box(), red) },
		"Fill of some":    func() (img, api.Errno) { return m.Fill(box(1, 1, 3, 9), red) },
		"Fill of none":    func() (img, api.Errno) { return m.Fill(geom.Box{}, red) },
		"Fill refused":    func() (img, api.Errno) { return m.Fill(m.Box(), color{1, 0, 0, 0}) },
		"Lay":             func() (img, api.Errno) { return m.Lay(o.img, 1, 0, 200, 0) },
		"Lay in a corner": func() (img, api.Errno) { return m.Lay(o.img, 3, 2, 255, 2) },
		"Lay far away":    func() (img, api.Errno) { return m.Lay(o.img, 99, most, 255, 2) },
		"Lay of nothing":  func() (img, api.Errno) { return m.Lay(o.img, 0, 0, 0, 0) },
		"Lay of itself":   func() (img, api.Errno) { return m.Lay(m.img, 0, 0, 255, 0) },
		"Lay over less":   func() (img, api.Errno) { return o.Lay(m.img, -1, -1, 255, 1) },
		"Lay refused":     func() (img, api.Errno) { return m.Lay(o.img, 0, 0, 255, 5) },
		"Crop of all":     func() (img, api.Errno) { return m.Crop(m.Box()) },
		"Crop of one row": func() (img, api.Errno) { return m.Crop(box(0, 1, 4, 2)) },
		"Crop":            func() (img, api.Errno) { return m.Crop(box(1, 1, 3, 3)) },
		"Crop refused":    func() (img, api.Errno) { return m.Crop(box(1, 1, 3, 4)) },
	} {
		got, e := call()
		m.checkStays(t, what)
		o.checkStays(t, what)
		again, _ := call()
		kept := img{W: got.W, H: got.H, Pix: slices.Clone(got.Pix)}
		spoil(got.Pix[:cap(got.Pix)])
		m.checkStays(t, what+", spoilt")
		o.checkStays(t, what+", spoilt")
		check(t, what+", again", again, e, kept, e)
		spoil(m.all)
		spoil(o.all)
		check(t, what+", behind what was handed in", again, e, kept, e)
		copy(m.all, m.kept)
		copy(o.all, o.kept)
	}
}

// P11.5: calls that tell no image change nothing either, and bytes are new.
func TestMemoryOfOthers(t *testing.T) {
	next := stepper()
	m, o := newRoomy(manyImage(next, 4, 3)), newRoomy(manyImage(next, 4, 3))
	first, _ := m.Bytes()
	want := string(first)
	second, _ := m.Bytes()
	clear(first[:cap(first)])
	if string(second) != want {
		t.Errorf("Bytes share memory")
	}
	m.Check()
	m.At(1, 1)
	m.Box()
	m.Equal(o.img)
	m.Diff(o.img)
	m.Count(red)
	m.checkStays(t, "what tells no image")
	o.checkStays(t, "what tells no image")
	spoil(m.all)
	if string(second) != want {
		t.Errorf("Bytes share memory with the image")
	}
}

// P11.4, P11.5: what Parse and New tell is new, and what Parse is handed stays.
func TestMemoryOfNew(t *testing.T) {
	want := anyImage(stepper(), 9, 9, red, none)
	all := []byte("spare" + wantBytes(want) + "room and room")
	kept := string(all)
	b := all[5 : 5+len(wantBytes(want))]
	one, _ := image.Parse(b)
	two, _ := image.Parse(b)
	if string(all) != kept {
		t.Errorf("Parse changed what it was handed")
	}
	spoil(one.Pix[:cap(one.Pix)])
	clear(all)
	check(t, "Parse", two, api.OK, want, api.OK)
	for n := range len(b) {
		image.Parse(all[5 : 5+n])
	}
	if slices.ContainsFunc(all, func(n byte) bool { return n != 0 }) {
		t.Errorf("Parse changed what it refused")
	}
	a, _ := image.New(3, 3)
	c, _ := image.New(3, 3)
	spoil(a.Pix[:cap(a.Pix)])
	check(t, "New", c, api.OK, plain(3, 3, none), api.OK)
}

// P1: every call ends, and none panics, whatever it is handed.
func TestWild(t *testing.T) {
	images := append(wrongImages(), plain(3, 2, red), plain(256, 256, half))
	for _, m := range images {
		m.Check()
		m.Box()
		m.Bytes()
		m.Count(none)
		for _, o := range images {
			m.Equal(o)
			m.Diff(o)
			m.Lay(o, least, most, 3, 4)
		}
		for _, x := range []int{least, -1, 0, 1, 256, most} {
			for _, y := range []int{least, -1, 0, 1, 256, most} {
				m.At(x, y)
				m.Fill(box(x, x, y, y), red)
				m.Fill(box(x, y, y, x), color{1, 0, 0, 0})
				m.Crop(box(x, y, y, x))
				m.Crop(box(x, x, y, y))
				m.Lay(images[len(images)-1], x, y, 255, x)
				image.New(x, y)
			}
		}
	}
	next := stepper()
	for range 200000 {
		b := make([]byte, next(30))
		for i := range b {
			b[i] = byte(next(1 + next(256)))
		}
		if m, e := image.Parse(b); e == api.OK && wantBytes(m) != string(b) {
			t.Errorf("Parse(%x): %v", b, m)
		}
	}
}
