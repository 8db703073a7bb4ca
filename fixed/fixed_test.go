package fixed_test

import (
	"math"
	"math/big"
	"strings"
	"testing"

	"limner/api"
	"limner/fixed"
)

const room = api.MaxCoord

// edges are coordinates and other ints at which a rule changes.
var edges = []int{
	0, 1, 2, 3, 63, 64, 65, 127, 128, 129, 191, 192, 254, 255, 256, 257, 383, 384, 385, 511, 512, 513,
	65535, 65536, 65537, 1<<23 - 1, 1 << 23, 1<<23 + 1, 1<<24 - 1, 1 << 24, 1<<30 - 1, 1 << 30, 1<<30 + 1,
	46340 << 4, 46341 << 4, 741455, 741456, room - 257, room - 256, room - 255, room - 128, room - 1, room,
	room + 1, room + 255, room + 256, 1<<32 - 1, 1 << 32, 1<<32 + 1, 1 << 40, 1 << 55, 1 << 62,
	math.MaxInt - 256, math.MaxInt - 255, math.MaxInt - 128, math.MaxInt - 127, math.MaxInt - 1, math.MaxInt,
}

// signed tells the edges, those below 0 too.
func signed() []int {
	l := []int{math.MinInt, math.MinInt + 127, math.MinInt + 128, math.MinInt + 255, math.MinInt + 256}
	for _, n := range edges {
		l = append(l, n, -n)
	}
	return l
}

// stepper tells numbers that look like chance, the same in every run.
func stepper() func(bits uint) int {
	state := uint64(0x9e3779b97f4a7c15)
	return func(bits uint) int {
		state ^= state << 13
		state ^= state >> 7
		state ^= state << 17
		return int(int64(state) >> (64 - bits))
	}
}

func isIn(n *big.Int) bool { return n.CmpAbs(big.NewInt(room)) <= 0 }

// rounded is n by d, by the document's words: the nearest, of two the greater.
func rounded(n, d *big.Int) *big.Int {
	x := new(big.Rat).SetFrac(n, d)
	x.Add(x, big.NewRat(1, 2))
	// Div rounds down, for what is below 0 too, as the denominator is above 0.
	return new(big.Int).Div(x.Num(), x.Denom())
}

func wantOf(n *big.Int) (int, api.Errno) {
	if !isIn(n) {
		return 0, api.ErrOverflow
	}
	return int(n.Int64()), api.OK
}

// calls are the four calls of two numbers, each with what it should answer.
var calls = []struct {
	name string
	got  func(a, b int) (int, api.Errno)
	want func(a, b *big.Int) (int, api.Errno)
}{
	{"Add", fixed.Add, func(a, b *big.Int) (int, api.Errno) { return wantOf(new(big.Int).Add(a, b)) }},
	{"Sub", fixed.Sub, func(a, b *big.Int) (int, api.Errno) { return wantOf(new(big.Int).Sub(a, b)) }},
	{"Mul", fixed.Mul, func(a, b *big.Int) (int, api.Errno) {
		return wantOf(rounded(new(big.Int).Mul(a, b), big.NewInt(256)))
	}},
	{"Div", fixed.Div, func(a, b *big.Int) (int, api.Errno) {
		if b.Sign() == 0 {
			return 0, api.ErrZero
		}
		return wantOf(rounded(new(big.Int).Mul(a, big.NewInt(256)), b))
	}},
}

func checkCalls(t *testing.T, a, b int) {
	t.Helper()
	x, y := big.NewInt(int64(a)), big.NewInt(int64(b))
	for _, c := range calls {
		want, wantErr := 0, api.ErrOverflow
		if isIn(x) && isIn(y) {
			want, wantErr = c.want(x, y)
		}
		if got, e := c.got(a, b); got != want || e != wantErr {
			t.Errorf("%s(%d, %d): %d, %d; want %d, %d", c.name, a, b, got, e, want, wantErr)
		}
	}
}

// P1.1: what is in room.
func TestIn(t *testing.T) {
	for _, a := range []int{0, 1, -1, room - 1, room, -room + 1, -room} {
		if !fixed.In(a) {
			t.Errorf("In(%d): false", a)
		}
	}
	for _, a := range []int{room + 1, -room - 1, 1 << 32, -1 << 32, 1<<32 + 5, math.MaxInt, math.MinInt} {
		if fixed.In(a) {
			t.Errorf("In(%d): true", a)
		}
	}
}

// P1.1: sums, differences, products and quotients of chosen numbers.
func TestCallsByHand(t *testing.T) {
	for _, c := range []struct {
		call    string
		a, b, n int
		e       api.Errno
	}{
		{"Add", 5, -7, -2, api.OK},
		{"Add", room - 1, 1, room, api.OK},
		{"Add", room, 1, 0, api.ErrOverflow},
		{"Add", -room, -1, 0, api.ErrOverflow},
		{"Add", room + 1, -1, 0, api.ErrOverflow},
		{"Add", -1, room + 1, 0, api.ErrOverflow},
		{"Add", math.MaxInt, math.MinInt, 0, api.ErrOverflow},
		{"Sub", 5, 7, -2, api.OK},
		{"Sub", -room, -room, 0, api.OK},
		{"Sub", -room, 1, 0, api.ErrOverflow},
		{"Sub", room + 1, room + 1, 0, api.ErrOverflow},
		{"Sub", math.MinInt, math.MinInt, 0, api.ErrOverflow},
		{"Mul", 384, 128, 192, api.OK},
		{"Mul", 1, 127, 0, api.OK},
		{"Mul", 1, 128, 1, api.OK},
		{"Mul", -1, 128, 0, api.OK},
		{"Mul", -1, 129, -1, api.OK},
		{"Mul", -3, -128, 2, api.OK},
		{"Mul", room, 256, room, api.OK},
		{"Mul", -room, 256, -room, api.OK},
		{"Mul", room, 257, 0, api.ErrOverflow},
		{"Mul", room, room, 0, api.ErrOverflow},
		{"Mul", room, -room, 0, api.ErrOverflow},
		{"Mul", room + 1, 0, 0, api.ErrOverflow},
		{"Mul", 0, math.MinInt, 0, api.ErrOverflow},
		{"Div", 1, 3, 85, api.OK},
		{"Div", -1, 3, -85, api.OK},
		{"Div", 1, -3, -85, api.OK},
		{"Div", 1, 512, 1, api.OK},
		{"Div", -1, 512, 0, api.OK},
		{"Div", 1, -512, 0, api.OK},
		{"Div", -1, -512, 1, api.OK},
		{"Div", 512, -256, -512, api.OK},
		{"Div", 0, -7, 0, api.OK},
		{"Div", room, 256, room, api.OK},
		{"Div", -room, 256, -room, api.OK},
		{"Div", room, -256, -room, api.OK},
		{"Div", room, 255, 0, api.ErrOverflow},
		{"Div", 7, 0, 0, api.ErrZero},
		{"Div", 0, 0, 0, api.ErrZero},
		{"Div", room, 0, 0, api.ErrZero},
		{"Div", room + 1, 0, 0, api.ErrOverflow},
		{"Div", math.MinInt, 0, 0, api.ErrOverflow},
		{"Div", 1, room + 1, 0, api.ErrOverflow},
		{"Div", math.MinInt, -1, 0, api.ErrOverflow},
	} {
		for _, f := range calls {
			if f.name != c.call {
				continue
			}
			if n, e := f.got(c.a, c.b); n != c.n || e != c.e {
				t.Errorf("%s(%d, %d): %d, %d; want %d, %d", c.call, c.a, c.b, n, e, c.n, c.e)
			}
		}
	}
}

// P1.1: every pair of edges, and of small numbers, against exact numbers.
func TestCallsOfPairs(t *testing.T) {
	all := signed()
	for _, a := range all {
		for _, b := range all {
			checkCalls(t, a, b)
		}
	}
	for a := -40; a <= 40; a++ {
		for b := -40; b <= 40; b++ {
			checkCalls(t, a, b)
		}
		for b := -1100; b <= 1100; b += 4 {
			checkCalls(t, a, b)
		}
	}
}

// P1.1: numbers of all sizes, against exact numbers.
func TestCallsOfMany(t *testing.T) {
	next := stepper()
	for i := 0; i < 40000; i++ {
		checkCalls(t, next(1+uint(i)%33), next(1+uint(i/33)%33))
	}
}

// P1.2: by exact numbers, of any int.
func TestWhole(t *testing.T) {
	l := signed()
	for a := -2000; a <= 2000; a++ {
		l = append(l, a)
	}
	next := stepper()
	for i := 0; i < 10000; i++ {
		l = append(l, next(1+uint(i)%64))
	}
	one := big.NewInt(256)
	for _, a := range l {
		n := big.NewInt(int64(a))
		// Div and the denominator above 0: down; the same of the number turned round: up.
		down := new(big.Int).Div(n, one)
		up := new(big.Int).Div(new(big.Int).Neg(n), one)
		up.Neg(up)
		if got := fixed.Floor(a); down.Cmp(big.NewInt(int64(got))) != 0 {
			t.Errorf("Floor(%d): %d; want %s", a, got, down)
		}
		if got := fixed.Ceil(a); up.Cmp(big.NewInt(int64(got))) != 0 {
			t.Errorf("Ceil(%d): %d; want %s", a, got, up)
		}
		if got := fixed.Near(a); rounded(n, one).Cmp(big.NewInt(int64(got))) != 0 {
			t.Errorf("Near(%d): %d; want %s", a, got, rounded(n, one))
		}
	}
}

// P1.2: chosen numbers.
func TestWholeByHand(t *testing.T) {
	for _, c := range []struct{ a, floor, ceil, near int }{
		{0, 0, 0, 0}, {1, 0, 1, 0}, {127, 0, 1, 0}, {128, 0, 1, 1}, {255, 0, 1, 1}, {256, 1, 1, 1}, {257, 1, 2, 1},
		{-1, -1, 0, 0}, {-127, -1, 0, 0}, {-128, -1, 0, 0}, {-129, -1, 0, -1}, {-256, -1, -1, -1}, {-257, -2, -1, -1},
		{math.MaxInt, 1<<55 - 1, 1 << 55, 1 << 55}, {math.MinInt, -1 << 55, -1 << 55, -1 << 55},
	} {
		if f, u, n := fixed.Floor(c.a), fixed.Ceil(c.a), fixed.Near(c.a); f != c.floor || u != c.ceil || n != c.near {
			t.Errorf("%d: %d, %d, %d; want %d, %d, %d", c.a, f, u, n, c.floor, c.ceil, c.near)
		}
	}
}

// wantText tells the decimal digits of a 256ths by exact numbers.
func wantText(a int) string {
	s := big.NewRat(int64(a), 256).FloatString(8)
	return strings.TrimSuffix(strings.TrimRight(s, "0"), ".")
}

// P1.3: texts by exact numbers, and each text is read back.
func TestTextAndBack(t *testing.T) {
	var l []int
	for _, a := range signed() {
		if fixed.In(a) {
			l = append(l, a)
		}
	}
	for a := -1030; a <= 1030; a++ {
		l = append(l, a, a+10*256, a+100*256, a-1000*256)
	}
	next := stepper()
	for i := 0; i < 20000; i++ {
		l = append(l, next(1+uint(i)%32))
	}
	for _, a := range l {
		s := wantText(a)
		if got := fixed.Text(a); got != s {
			t.Errorf("Text(%d): %q; want %q", a, got, s)
		}
		if got, e := fixed.Parse(s); got != a || e != api.OK {
			t.Errorf("Parse(%q): %d, %d; want %d", s, got, e, a)
		}
	}
}

// P1.3: chosen texts.
func TestTextByHand(t *testing.T) {
	for _, c := range []struct {
		a int
		s string
	}{
		{0, "0"}, {1, "0.00390625"}, {-1, "-0.00390625"}, {2, "0.0078125"}, {128, "0.5"}, {-384, "-1.5"}, {256, "1"},
		{-256, "-1"}, {255, "0.99609375"}, {2560, "10"}, {256*100 + 64, "100.25"},
		{room, "8388608"}, {-room, "-8388608"}, {room - 1, "8388607.99609375"}, {1 - room, "-8388607.99609375"},
	} {
		if got := fixed.Text(c.a); got != c.s {
			t.Errorf("Text(%d): %q; want %q", c.a, got, c.s)
		}
		if got, e := fixed.Parse(c.s); got != c.a || e != api.OK {
			t.Errorf("Parse(%q): %d, %d; want %d", c.s, got, e, c.a)
		}
	}
}

// P1.3: no text for what is not in room.
func TestTextOutOfRoom(t *testing.T) {
	for _, a := range []int{room + 1, -room - 1, 1 << 40, math.MaxInt, math.MinInt} {
		if got := fixed.Text(a); got != "" {
			t.Errorf("Text(%d): %q", a, got)
		}
	}
}

// P1.3: texts that are no coordinate's.
func TestParseWrong(t *testing.T) {
	for _, s := range []string{
		"", " ", "-", "+", ".", "-.", "--1", "+1", "-+1", "1-", "-0", "-0.0", "0.0", "00", "01", "-01", "00.5",
		"1.", "-1.", ".5", "-.5", "1.0", "1.50", "1..5", "1.5.", "1.5.5", "1.-5", "1.+5", "1. 5", " 1", "1 ", "1\n", "1\x00",
		"0.1", "0.001", "0.00390624", "0.00390626", "0.003906250", "0.0039062500000000000", "0.001953125",
		"1e3", "0x10", "1_000", "1,5", "0b1", "0o7", "Inf", "NaN", "½", "١", "\xff", "1\xff",
		"8388608.00390625", "-8388608.00390625", "8388608.5", "8388609", "-8388609", "16777215", "16777216",
		// These wrap round to coordinates where too few bits are kept.
		"16777217", "4294967297", "36028797018963968", "36028797018963969", "72057594037927936", "72057594037927937",
		"18446744073709551616", "18446744073709551617", "-18446744073709551617", "9223372036854775808",
		"0.18446744073709551616", strings.Repeat("0", 100000), strings.Repeat("9", 100000), "0." + strings.Repeat("5", 100000),
		strings.Repeat("-", 100000), strings.Repeat(".", 100000),
	} {
		if a, e := fixed.Parse(s); a != 0 || e != api.ErrForm {
			t.Errorf("Parse(%.40q): %d, %d", s, a, e)
		}
	}
}

// P1.3: of all short texts just those are read that a coordinate has.
func TestParseEveryShortText(t *testing.T) {
	const most = 4
	texts := make(map[string]int)
	for a := -9999 * 256; a <= 9999*256; a++ {
		if s := wantTextFast(a); len(s) <= most {
			texts[s] = a
		}
	}
	layer := []string{""}
	for n := 0; n <= most; n++ {
		var longer []string
		for _, s := range layer {
			want, is := texts[s]
			got, e := fixed.Parse(s)
			if is && (got != want || e != api.OK) || !is && (got != 0 || e != api.ErrForm) {
				t.Errorf("Parse(%q): %d, %d; want %d, %t", s, got, e, want, is)
			}
			for _, c := range []byte("-+.01256789e _") {
				longer = append(longer, s+string(c))
			}
		}
		layer = longer
	}
}

// wantTextFast is wantText, but for the many whose parts are too fine to be short: of those it tells a long text.
func wantTextFast(a int) string {
	if a%64 != 0 {
		return "too long"
	}
	return wantText(a)
}
