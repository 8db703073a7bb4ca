package paint_test

import (
	"math"
	"slices"
	"testing"

	"limner/api"
	"limner/paint"
)

const (
	// unit is where a shade ends at most.
	unit = 65536

	least, most = math.MinInt, math.MaxInt
)

type (
	color = paint.Color
	stop  = paint.Stop
	stops = []paint.Stop
)

// numbers are numbers of a colour at which rounding and bounds show.
func numbers() []int {
	return []int{0, 1, 2, 3, 7, 63, 84, 85, 126, 127, 128, 129, 170, 200, 253, 254, 255}
}

// wildInts are ints at the ends of what calls are promised something of, and far beyond.
func wildInts() []int {
	return []int{least, least + 1, -1 << 32, -unit - 1, -257, -256, -255, -17, -16, -2, -1, 0, 1, 2, 4, 5, 15, 16, 17, 254, 255, 256, 257,
		32767, 32768, unit - 1, unit, unit + 1, 1 << 32, 1<<32 + 1, 1<<48 + 1, most - 1, most}
}

// stepper tells numbers that look like chance, the same in every run: from 0 up to n - 1.
func stepper() func(n int) int {
	state := uint64(0x9e3779b97f4a7c15)
	return func(n int) int {
		state ^= state << 13
		state ^= state >> 7
		state ^= state << 17
		return int((state >> 33) % uint64(n))
	}
}

// anyColor tells some colour, right or not.
func anyColor(next func(n int) int) color {
	return color{byte(next(256)), byte(next(256)), byte(next(256)), byte(next(256))}
}

// rightColor tells some colour that is right.
func rightColor(next func(n int) int) color {
	a := next(256)
	if next(8) == 0 {
		a = 255
	}
	return color{byte(next(a + 1)), byte(next(a + 1)), byte(next(a + 1)), byte(a)}
}

// wantNearest tells n divided by d by the document's words: the nearest whole number, of two the greater.
func wantNearest(n, d int) int {
	q := n / d
	if rest := n - q*d; rest >= d-rest {
		q++
	}
	return q
}

func wantOf(a, b int) int { return wantNearest(a*b, 255) }

func wantRight(c color) bool { return c[0] <= c[3] && c[1] <= c[3] && c[2] <= c[3] }

// wantEach tells the colour whose numbers are told one by one, which must be such.
func wantEach(t *testing.T, number func(i int) int) color {
	t.Helper()
	var c color
	for i := range c {
		n := number(i)
		if n < 0 || n > 255 {
			t.Fatalf("%d is no number of a colour", n)
		}
		c[i] = byte(n)
	}
	return c
}

// P10.1: Of, of all numbers, and of others.
func TestOf(t *testing.T) {
	for a := range 256 {
		for b := range 256 {
			if got := paint.Of(a, b); got != wantOf(a, b) {
				t.Fatalf("Of(%d, %d): %d, not %d", a, b, got, wantOf(a, b))
			}
		}
	}
	for _, c := range []struct{ a, b, want int }{
		{0, 0, 0}, {255, 255, 255}, {255, 0, 0}, {1, 127, 0}, {1, 128, 1}, {127, 1, 0}, {128, 1, 1}, {128, 128, 64}, {254, 254, 253}, {51, 127, 25}, {51, 128, 26},
	} {
		if got := paint.Of(c.a, c.b); got != c.want {
			t.Errorf("Of(%d, %d): %d, not %d", c.a, c.b, got, c.want)
		}
	}
}

// P10.1: Of numbers that are not from 0 to 255 is 0.
func TestOfOthers(t *testing.T) {
	for _, a := range wildInts() {
		if a >= 0 && a <= 255 {
			continue
		}
		for _, b := range append(wildInts(), numbers()...) {
			if x, y := paint.Of(a, b), paint.Of(b, a); x != 0 || y != 0 {
				t.Errorf("Of(%d, %d): %d, and %d the other way", a, b, x, y)
			}
		}
	}
}

// P10.1: Straight multiplies by alpha, and what it tells is right.
func TestStraight(t *testing.T) {
	for _, c := range []struct {
		r, g, b, a byte
		want       color
	}{
		{255, 0, 0, 128, color{128, 0, 0, 128}},
		{1, 2, 3, 255, color{1, 2, 3, 255}},
		{255, 255, 255, 0, color{}},
		{255, 128, 127, 1, color{1, 1, 0, 1}},
		{10, 20, 30, 128, color{5, 10, 15, 128}},
		{0, 0, 0, 77, color{0, 0, 0, 77}},
	} {
		if got := paint.Straight(c.r, c.g, c.b, c.a); got != c.want {
			t.Errorf("Straight(%d, %d, %d, %d): %v, not %v", c.r, c.g, c.b, c.a, got, c.want)
		}
	}
	for a := range 256 {
		for n := range 256 {
			r, g, b := n, 255-n, n^a
			got := paint.Straight(byte(r), byte(g), byte(b), byte(a))
			want := color{byte(wantOf(a, r)), byte(wantOf(a, g)), byte(wantOf(a, b)), byte(a)}
			if got != want || !got.Right() {
				t.Fatalf("Straight(%d, %d, %d, %d): %v, not %v; right: %t", r, g, b, a, got, want, got.Right())
			}
		}
	}
}

// P10.1: a colour is right while none of the first three is above the fourth.
func TestRight(t *testing.T) {
	for _, c := range []struct {
		c     color
		right bool
	}{
		{color{}, true}, {color{0, 0, 0, 255}, true}, {color{255, 255, 255, 255}, true}, {color{5, 5, 5, 5}, true}, {color{4, 5, 3, 5}, true},
		{color{1, 0, 0, 0}, false}, {color{0, 1, 0, 0}, false}, {color{0, 0, 1, 0}, false}, {color{255, 255, 255, 254}, false},
		{color{6, 5, 5, 5}, false}, {color{5, 6, 5, 5}, false}, {color{5, 5, 6, 5}, false}, {color{0, 128, 0, 127}, false},
	} {
		if got := c.c.Right(); got != c.right {
			t.Errorf("Right of %v: %t", c.c, got)
		}
	}
	for a := range 256 {
		for n := range 256 {
			low := byte(min(n, a))
			for i, c := range []color{{byte(n), low, 0, byte(a)}, {low, byte(n), low, byte(a)}, {0, low, byte(n), byte(a)}} {
				if got := c.Right(); got != (n <= a) {
					t.Fatalf("Right of %v, by number %d: %t", c, i, got)
				}
			}
		}
	}
}

// P10.2: Fade, of all numbers at all places, of colours that are right and of others.
func TestFade(t *testing.T) {
	for by := range 256 {
		for n := range 256 {
			c := color{byte(n), byte(255 - n), byte(n ^ by), byte(n ^ 85)}
			want := wantEach(t, func(i int) int { return wantOf(by, int(c[i])) })
			if got := c.Fade(byte(by)); got != want {
				t.Fatalf("%v.Fade(%d): %v, not %v", c, by, got, want)
			}
		}
	}
	c := color{200, 100, 1, 255}
	for by, want := range map[byte]color{0: {}, 1: {1, 0, 0, 1}, 127: {100, 50, 0, 127}, 128: {100, 50, 1, 128}, 255: c} {
		if got := c.Fade(by); got != want {
			t.Errorf("%v.Fade(%d): %v, not %v", c, by, got, want)
		}
	}
}

// P10.2: Part, of all numbers at all places and all sixteenths; below and above as at the ends.
func TestPart(t *testing.T) {
	for n := 0; n <= 16; n++ {
		for m := range 256 {
			c := color{byte(m), byte(255 - m), byte(m ^ 170), byte(m ^ 15)}
			want := wantEach(t, func(i int) int { return wantNearest(int(c[i])*n, 16) })
			if got := c.Part(n); got != want {
				t.Fatalf("%v.Part(%d): %v, not %v", c, n, got, want)
			}
		}
	}
	c := color{8, 7, 24, 255}
	// Half ways go up: 8, 7 and 24 sixteenths.
	for n, want := range map[int]color{0: {}, 1: {1, 0, 2, 16}, 2: {1, 1, 3, 32}, 8: {4, 4, 12, 128}, 15: {8, 7, 23, 239}, 16: c} {
		if got := c.Part(n); got != want {
			t.Errorf("%v.Part(%d): %v, not %v", c, n, got, want)
		}
	}
	for _, n := range wildInts() {
		if n < 0 && c.Part(n) != (color{}) {
			t.Errorf("%v.Part(%d): %v", c, n, c.Part(n))
		}
		if n > 16 && c.Part(n) != c {
			t.Errorf("%v.Part(%d): %v", c, n, c.Part(n))
		}
	}
}

// P10.3: Over, worked out by hand.
func TestOverByHand(t *testing.T) {
	white := color{255, 255, 255, 255}
	for _, c := range []struct{ c, d, want color }{
		{color{128, 0, 0, 128}, white, color{255, 127, 127, 255}},
		{color{}, color{1, 2, 3, 4}, color{1, 2, 3, 4}},
		{color{1, 2, 3, 4}, color{}, color{1, 2, 3, 4}},
		{color{9, 8, 7, 255}, color{1, 2, 3, 200}, color{9, 8, 7, 255}},
		{color{0, 0, 0, 128}, color{0, 0, 0, 128}, color{0, 0, 0, 192}},
		{color{64, 0, 10, 128}, color{0, 64, 20, 128}, color{64, 32, 20, 192}},
		{color{0, 1, 2, 127}, color{1, 1, 1, 1}, color{1, 2, 3, 128}},
		{color{0, 1, 2, 128}, color{1, 1, 1, 1}, color{0, 1, 2, 128}},
		// What is not right may come to more than 255.
		{color{200, 255, 100, 0}, color{100, 255, 100, 0}, color{255, 255, 200, 0}},
		{color{255, 1, 0, 254}, color{255, 255, 127, 255}, color{255, 2, 0, 255}},
	} {
		if got := c.c.Over(c.d); got != c.want {
			t.Errorf("%v over %v: %v, not %v", c.c, c.d, got, c.want)
		}
	}
}

// P10.3: Over, of all numbers over all others, at all alphas, of colours that are right and of others.
func TestOver(t *testing.T) {
	var of [256][256]int
	for a := range 256 {
		for b := range 256 {
			of[a][b] = wantOf(a, b)
		}
	}
	for a := range 256 {
		for m := range 256 {
			for n := 0; n < 256; n += 4 {
				c, d := color{byte(m), byte(m), byte(m), byte(a)}, color{byte(n), byte(n + 1), byte(n + 2), byte(n + 3)}
				got := c.Over(d)
				for i := range got {
					if want := min(int(c[i])+of[255-a][d[i]], 255); int(got[i]) != want {
						t.Fatalf("%v over %v: %v, not %d at %d", c, d, got, want, i)
					}
				}
			}
		}
	}
}

// P10.3: what is right over what is right is right.
func TestOverIsRight(t *testing.T) {
	next := stepper()
	for range 100000 {
		c, d := rightColor(next), rightColor(next)
		if got := c.Over(d); !wantRight(got) {
			t.Errorf("%v over %v: %v", c, d, got)
		}
	}
}

// wantBlend tells by the document's words what is seen of right colours.
func wantBlend(t *testing.T, c, d color, mode int) color {
	t.Helper()
	A, B := int(c[3]), int(d[3])
	out := min(A+wantOf(255-A, B), 255)
	return wantEach(t, func(i int) int {
		s, u := int(c[i]), int(d[i])
		n := 0
		switch mode {
		case 0:
			return min(s+wantOf(255-A, u), 255)
		case 1:
			n = wantOf(s, u) + wantOf(255-B, s) + wantOf(255-A, u)
		case 2:
			n = s + u - wantOf(s, u)
		case 3:
			n = s + u - max(wantOf(B, s), wantOf(A, u))
		case 4:
			n = s + u - min(wantOf(B, s), wantOf(A, u))
		}
		if i == 3 {
			return out
		}
		return min(max(n, 0), out)
	})
}

func checkBlend(t *testing.T, c, d color, mode int, want color, wantE api.Errno) {
	t.Helper()
	if got, e := c.Blend(d, mode); got != want || e != wantE {
		t.Errorf("%v.Blend(%v, %d): %v, %d; not %v, %d", c, d, mode, got, e, want, wantE)
	}
}

// P10.4: each mode, worked out by hand.
func TestBlendByHand(t *testing.T) {
	for _, c := range []struct {
		c, d color
		want [5]color
	}{
		{color{200, 100, 0, 255}, color{100, 200, 50, 255},
			[5]color{{200, 100, 0, 255}, {78, 78, 0, 255}, {222, 222, 50, 255}, {100, 100, 0, 255}, {200, 200, 50, 255}}},
		// Nothing over a colour, and a colour over nothing, are that colour.
		{color{}, color{90, 60, 30, 120},
			[5]color{{90, 60, 30, 120}, {90, 60, 30, 120}, {90, 60, 30, 120}, {90, 60, 30, 120}, {90, 60, 30, 120}}},
		{color{90, 60, 30, 120}, color{},
			[5]color{{90, 60, 30, 120}, {90, 60, 30, 120}, {90, 60, 30, 120}, {90, 60, 30, 120}, {90, 60, 30, 120}}},
		// Half of red over half of green.
		{color{128, 0, 0, 128}, color{0, 128, 0, 128},
			[5]color{{128, 64, 0, 192}, {64, 64, 0, 192}, {128, 128, 0, 192}, {64, 64, 0, 192}, {128, 128, 0, 192}}},
		// Of red: 100 of 180 is 71, 55 of 100 is 22, 153 of 180 is 108, 200 of 100 is 78, 102 of 180 is 72.
		{color{100, 0, 51, 102}, color{180, 90, 10, 200},
			[5]color{{208, 54, 57, 222}, {201, 54, 19, 222}, {209, 90, 59, 222}, {202, 54, 21, 222}, {208, 90, 57, 222}}},
		{color{255, 255, 255, 255}, color{9, 0, 255, 255},
			[5]color{{255, 255, 255, 255}, {9, 0, 255, 255}, {255, 255, 255, 255}, {9, 0, 255, 255}, {255, 255, 255, 255}}},
		{color{0, 0, 0, 255}, color{9, 0, 255, 255},
			[5]color{{0, 0, 0, 255}, {0, 0, 0, 255}, {9, 0, 255, 255}, {0, 0, 0, 255}, {9, 0, 255, 255}}},
		// Each part is rounded by itself: 254 of 1 is 1, twice.
		{color{1, 1, 0, 1}, color{1, 0, 0, 1},
			[5]color{{2, 1, 0, 2}, {2, 1, 0, 2}, {2, 1, 0, 2}, {2, 1, 0, 2}, {2, 1, 0, 2}}},
	} {
		for mode, want := range c.want {
			checkBlend(t, c.c, c.d, mode, want, api.OK)
		}
	}
}

// P10.4: each mode, of colours with numbers at which rounding shows, at every place.
func TestBlendAtEdges(t *testing.T) {
	l := numbers()
	for _, a := range l {
		for _, b := range l {
			for i, s := range l {
				for k, u := range l {
					if s > a || u > b {
						continue
					}
					c := color{byte(s), byte(min(l[k], a)), byte(a - s), byte(a)}
					d := color{byte(u), byte(b - u), byte(min(l[i], b)), byte(b)}
					for mode := range 5 {
						checkBlend(t, c, d, mode, wantBlend(t, c, d, mode), api.OK)
					}
				}
			}
		}
	}
}

// P10.4: each mode, of any right colours; what comes out is right, with the alpha of Over, and of the modes but Over the same both ways.
func TestBlend(t *testing.T) {
	next := stepper()
	for range 100000 {
		c, d := rightColor(next), rightColor(next)
		for mode := range 5 {
			got, e := c.Blend(d, mode)
			if want := wantBlend(t, c, d, mode); got != want || e != api.OK {
				t.Fatalf("%v.Blend(%v, %d): %v, %d; not %v", c, d, mode, got, e, want)
			}
			if !got.Right() || got[3] != c.Over(d)[3] {
				t.Errorf("%v.Blend(%v, %d): %v; over: %v", c, d, mode, got, c.Over(d))
			}
			if mode == 0 {
				checkBlend(t, c, d, 0, c.Over(d), api.OK)
			} else {
				checkBlend(t, d, c, mode, got, api.OK)
			}
		}
	}
}

// P10.4: modes that are none are refused, ahead of colours that are not right; these by every mode.
func TestBlendRefuses(t *testing.T) {
	right := []color{{}, {0, 0, 0, 255}, {9, 5, 1, 9}, {255, 255, 255, 255}}
	wrong := []color{{1, 0, 0, 0}, {0, 1, 0, 0}, {0, 0, 1, 0}, {255, 255, 255, 254}, {9, 10, 9, 9}, {0, 0, 200, 199}}
	for _, c := range slices.Concat(right, wrong) {
		for _, d := range slices.Concat(right, wrong) {
			for _, mode := range append(wildInts(), 3, 6, 258, 1<<32+4) {
				if mode < 0 || mode > 4 {
					checkBlend(t, c, d, mode, color{}, api.ErrKind)
				} else if !wantRight(c) || !wantRight(d) {
					checkBlend(t, c, d, mode, color{}, api.ErrRange)
				} else {
					checkBlend(t, c, d, mode, wantBlend(t, c, d, mode), api.OK)
				}
			}
		}
	}
}

func checkMix(t *testing.T, c, d color, at int, want color) {
	t.Helper()
	if got := paint.Mix(c, d, at); got != want {
		t.Fatalf("Mix(%v, %v, %d): %v, not %v", c, d, at, got, want)
	}
}

func wantMix(t *testing.T, c, d color, at int) color {
	t.Helper()
	at = min(max(at, 0), unit)
	return wantEach(t, func(i int) int { return wantNearest(int(c[i])*(unit-at)+int(d[i])*at, unit) })
}

// P10.5: Mix, worked out by hand.
func TestMixByHand(t *testing.T) {
	c, d := color{0, 255, 1, 255}, color{1, 0, 4, 254}
	for _, m := range []struct {
		at   int
		want color
	}{
		{0, c},
		{1, c},
		// 128 of 65536 of 255 is a little less than a half.
		{128, color{0, 255, 1, 255}},
		{129, color{0, 254, 1, 255}},
		{10922, color{0, 213, 1, 255}},
		{10923, color{0, 212, 2, 255}},
		// Half ways go up: those of 0 and 1, of 255 and 0, of 1 and 4, of 255 and 254.
		{32767, color{0, 128, 2, 255}},
		{32768, color{1, 128, 3, 255}},
		{32769, color{1, 127, 3, 254}},
		{65407, color{1, 1, 4, 254}},
		{65408, color{1, 0, 4, 254}},
		{65535, d},
		{65536, d},
	} {
		checkMix(t, c, d, m.at, m.want)
	}
}

// P10.5: Mix of all pairs of numbers, at places where rounding shows; and at all places.
func TestMix(t *testing.T) {
	for m := range 256 {
		for n := range 256 {
			c, d := color{byte(m), byte(n), byte(255 - m), byte(m ^ 3)}, color{byte(n), byte(m), byte(n ^ 7), byte(255 - n)}
			for _, at := range []int{0, 1, 127, 128, 129, 8192, 16384, 21845, 32767, 32768, 32769, 49152, 65407, 65408, 65409, 65535, 65536} {
				checkMix(t, c, d, at, wantMix(t, c, d, at))
			}
		}
	}
	c, d := color{0, 255, 10, 200}, color{255, 0, 13, 255}
	for at := range unit + 1 {
		checkMix(t, c, d, at, wantMix(t, c, d, at))
	}
}

// P10.5: below 0 it is as at 0, above 65536 as at 65536; what is right mixed with what is right is right.
func TestMixEnds(t *testing.T) {
	next := stepper()
	for range 2000 {
		c, d := anyColor(next), anyColor(next)
		for _, at := range wildInts() {
			switch {
			case at <= 0:
				checkMix(t, c, d, at, c)
			case at >= unit:
				checkMix(t, c, d, at, d)
			}
		}
	}
	for range 100000 {
		c, d, at := rightColor(next), rightColor(next), next(unit+1)
		if got := paint.Mix(c, d, at); !wantRight(got) {
			t.Errorf("Mix(%v, %v, %d): %v", c, d, at, got)
		}
	}
}

func checkShade(t *testing.T, l stops, at int, want color, wantE api.Errno) {
	t.Helper()
	if got, e := paint.Shade(l, at); got != want || e != wantE {
		t.Errorf("Shade(%v, %d): %v, %d; not %v, %d", l, at, got, e, want, wantE)
	}
}

// checkStops holds what is told of l, whether it is a shade, against what is wanted.
func checkStops(t *testing.T, l stops, want api.Errno) {
	t.Helper()
	if got := paint.CheckStops(l); got != want {
		t.Errorf("CheckStops(%v): %d, not %d", l, got, want)
	}
	if want == api.OK {
		return
	}
	for _, at := range []int{least, -1, 0, 1, 32768, unit, most} {
		checkShade(t, l, at, color{}, want)
	}
}

// evenly tells so many stops, a step apart.
func evenly(many, step int) stops {
	var l stops
	for i := range many {
		l = append(l, stop{At: i * step, Color: color{byte(i), 0, 0, 255}})
	}
	return l
}

// P10.6: what is a shade, and what is none.
func TestCheckStops(t *testing.T) {
	c := color{5, 6, 7, 8}
	for _, l := range []stops{
		{{}}, {{At: 0, Color: c}}, {{At: unit, Color: c}}, {{At: 77}},
		{{At: 0}, {At: unit}}, {{At: 0}, {At: 0}}, {{At: unit}, {At: unit}}, {{At: 5}, {At: 5}, {At: 6}, {At: 6}, {At: 6}},
		evenly(15, 4000), evenly(16, 4096), evenly(16, 0),
		{{Color: color{8, 8, 8, 8}}, {Color: color{255, 255, 255, 255}}, {Color: color{0, 0, 0, 255}}},
	} {
		checkStops(t, l, api.OK)
	}
	for _, l := range []stops{
		nil, {}, evenly(17, 0), evenly(17, 1), make(stops, 18), make(stops, 256), make(stops, 257),
		{{At: -1}}, {{At: unit + 1}}, {{At: least}}, {{At: most}}, {{At: -1}, {At: 5}}, {{At: 5}, {At: unit + 1}}, {{At: least}, {At: most}}, {{At: 3}, {At: most}, {At: least}},
		{{At: 1}, {At: 0}}, {{At: 5}, {At: 6}, {At: 5}}, {{At: 6}, {At: 5}, {At: 7}}, {{At: 0}, {At: 3}, {At: 3}, {At: 2}, {At: 9}}, {{At: unit}, {At: 0}},
	} {
		checkStops(t, l, api.ErrRange)
	}
	checkStops(t, evenly(256, 1)[:16], api.OK)
}

// P10.6: one thing that is wrong is found wherever it stands.
func TestCheckStopsEverywhere(t *testing.T) {
	for _, many := range []int{1, 2, 3, 16} {
		for k := range many {
			for _, c := range []color{{1, 0, 0, 0}, {0, 1, 0, 0}, {0, 0, 1, 0}, {255, 255, 255, 254}} {
				l := evenly(many, 100)
				l[k].Color = c
				checkStops(t, l, api.ErrRange)
			}
			for _, at := range []int{-1, unit + 1, least, most} {
				l := evenly(many, 100)
				l[k].At = at
				checkStops(t, l, api.ErrRange)
			}
			if k > 0 {
				l := evenly(many, 100)
				l[k-1].At = l[k].At + 1
				checkStops(t, l, api.ErrRange)
				l[k-1].At = l[k].At
				checkStops(t, l, api.OK)
			}
		}
	}
}

// P10.6: shades, worked out by hand.
func TestShadeByHand(t *testing.T) {
	red, green, blue, black := color{255, 0, 0, 255}, color{0, 255, 0, 255}, color{0, 0, 255, 255}, color{0, 0, 0, 255}
	for _, c := range []struct {
		l    stops
		want map[int]color
	}{
		// One stop alone is everywhere.
		{stops{{At: 500, Color: red}}, map[int]color{least: red, 0: red, 499: red, 500: red, 501: red, most: red}},
		{stops{{At: 100, Color: black}, {At: 355, Color: red}},
			map[int]color{least: black, 0: black, 100: black, 101: {1, 0, 0, 255}, 102: {2, 0, 0, 255}, 228: {128, 0, 0, 255}, 354: {254, 0, 0, 255}, 355: red, 356: red, most: red}},
		// At its At the first stop comes first, then the last one.
		{stops{{At: 7, Color: red}, {At: 7, Color: green}}, map[int]color{6: red, 7: red, 8: green}},
		{stops{{At: 7, Color: red}, {At: 7, Color: blue}, {At: 7, Color: green}}, map[int]color{6: red, 7: red, 8: green}},
		{stops{{At: 7, Color: red}, {At: 7, Color: blue}, {At: 9, Color: green}}, map[int]color{6: red, 7: red, 8: {0, 128, 128, 255}, 9: green, 10: green}},
		{stops{{At: 7, Color: red}, {At: 9, Color: blue}, {At: 9, Color: green}}, map[int]color{7: red, 8: {128, 0, 128, 255}, 9: green, 10: green}},
		// Between, the last one of those at the same place counts behind it, the first one ahead.
		{stops{{At: 0, Color: black}, {At: 4, Color: red}, {At: 4, Color: black}, {At: 4, Color: green}, {At: 8, Color: blue}},
			map[int]color{0: black, 1: {64, 0, 0, 255}, 2: {128, 0, 0, 255}, 3: {191, 0, 0, 255}, 4: green, 5: {0, 191, 64, 255}, 6: {0, 128, 128, 255}, 7: {0, 64, 191, 255}, 8: blue}},
		// How far it is from one to the next is rounded down: a sixth of 3 is less than a half then.
		{stops{{At: 0, Color: color{0, 0, 0, 255}}, {At: 6, Color: color{3, 9, 1, 255}}},
			map[int]color{1: {0, 1, 0, 255}, 2: {1, 3, 0, 255}, 3: {2, 5, 1, 255}, 4: {2, 6, 1, 255}, 5: {2, 7, 1, 255}}},
		{stops{{At: 65536 - 6, Color: color{0, 0, 0, 0}}, {At: 65536, Color: color{3, 3, 1, 255}}},
			map[int]color{65530: {}, 65531: {0, 0, 0, 42}, 65536: {3, 3, 1, 255}, 65537: {3, 3, 1, 255}}},
		{stops{{At: 0, Color: black}, {At: unit, Color: red}}, map[int]color{0: black, 128: black, 129: {1, 0, 0, 255}, 32768: {128, 0, 0, 255}, 65407: {254, 0, 0, 255}, 65408: {255, 0, 0, 255}, 65536: red}},
	} {
		for at, want := range c.want {
			checkShade(t, c.l, at, want, api.OK)
		}
	}
}

// wantShade tells by the document's words the colour at a place of a shade.
func wantShade(t *testing.T, l stops, at int) color {
	t.Helper()
	if at <= l[0].At {
		return l[0].Color
	}
	if at >= l[len(l)-1].At {
		return l[len(l)-1].Color
	}
	last := 0
	for i, s := range l {
		if s.At <= at {
			last = i
		}
	}
	a, b := l[last], l[last+1]
	return wantMix(t, a.Color, b.Color, (at-a.At)*65536/(b.At-a.At))
}

// P10.6: shades of any stops, near and far apart, at any places.
func TestShade(t *testing.T) {
	next := stepper()
	for i := range 20000 {
		room := []int{1, 4, 40, 3000, unit + 1}[i%5]
		from := next(unit + 2 - room)
		l := make(stops, 1+next(16))
		for k := range l {
			l[k] = stop{At: from + next(room), Color: rightColor(next)}
		}
		slices.SortFunc(l, func(a, b stop) int { return a.At - b.At })
		places := []int{least, -1, 0, from, from + room - 1, unit, unit + 1, most}
		for _, s := range l {
			places = append(places, s.At-1, s.At, s.At+1, from+next(room))
		}
		for _, at := range places {
			want := wantShade(t, l, at)
			checkShade(t, l, at, want, api.OK)
			if !wantRight(want) {
				t.Errorf("Shade(%v, %d): %v is not right", l, at, want)
			}
		}
	}
}

// P10.6: a shade is new at each call: what is handed in stays, its spare room too, and isn't kept.
func TestHandedInStays(t *testing.T) {
	full := stops{{At: 9, Color: color{1, 1, 1, 1}}, {At: 3, Color: color{2, 2, 2, 2}}, {At: 5, Color: color{3, 3, 3, 3}}, {At: -1, Color: color{4, 0, 0, 0}}}
	kept := slices.Clone(full)
	for from := range len(full) + 1 {
		for to := from; to <= len(full); to++ {
			paint.CheckStops(full[from:to])
			for at := -2; at < 12; at++ {
				paint.Shade(full[from:to], at)
			}
		}
	}
	if !slices.Equal(full, kept) {
		t.Errorf("what was handed in is now %v", full)
	}
	l := stops{{At: 0, Color: color{9, 9, 9, 9}}}
	checkShade(t, l, 5, color{9, 9, 9, 9}, api.OK)
	l[0].Color = color{7, 7, 7, 7}
	checkShade(t, l, 5, color{7, 7, 7, 7}, api.OK)
}

// P10: what a call is asked of stays as it is.
func TestColoursStay(t *testing.T) {
	c, d := color{200, 100, 50, 220}, color{10, 20, 30, 40}
	c.Fade(9)
	c.Part(9)
	c.Over(d)
	for mode := range 5 {
		c.Blend(d, mode)
	}
	paint.Mix(c, d, 999)
	if c != (color{200, 100, 50, 220}) || d != (color{10, 20, 30, 40}) {
		t.Errorf("they are now %v and %v", c, d)
	}
}

// P1: every call ends, and none panics, whatever it is handed.
func TestWild(t *testing.T) {
	next := stepper()
	for _, x := range wildInts() {
		for _, y := range wildInts() {
			c, d := anyColor(next), anyColor(next)
			paint.Of(x, y)
			c.Part(x)
			c.Blend(d, y)
			paint.Mix(c, d, x)
			for _, z := range wildInts() {
				l := stops{{At: x, Color: c}, {At: y, Color: d}, {At: z}}
				paint.CheckStops(l)
				paint.Shade(l, z)
				paint.Shade(stops{{At: x}, {At: y}}, z)
			}
		}
	}
}
