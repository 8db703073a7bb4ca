package wide_test

import (
	"math"
	"math/big"
	"testing"

	"limner/api"
	"limner/wide"
)

// The numbers of math/big at which the program's wrap round or end.
var (
	two64  = power(64)
	two127 = power(127)
	two128 = power(128)
)

func power(n uint) *big.Int { return new(big.Int).Lsh(big.NewInt(1), n) }

// value is a number by the document's words: Hi times 2^64, and Lo.
func value(x wide.Num) *big.Int {
	v := new(big.Int).Mul(big.NewInt(x.Hi), two64)
	return v.Add(v, new(big.Int).SetUint64(x.Lo))
}

// wrapped is n modulo 2^128, from -2^127 up to 2^127 - 1.
func wrapped(n *big.Int) *big.Int {
	// Mod tells no rest below 0, as its second number is above 0.
	v := new(big.Int).Mod(n, two128)
	if v.Cmp(two127) >= 0 {
		v.Sub(v, two128)
	}
	return v
}

// floored is n by d, rounded down, and whether that is exact.
func floored(n, d *big.Int) (*big.Int, bool) {
	q, rest := new(big.Int).QuoRem(n, d, new(big.Int))
	if rest.Sign() != 0 && (rest.Sign() < 0) != (d.Sign() < 0) {
		q.Sub(q, big.NewInt(1))
	}
	return q, rest.Sign() == 0
}

// stepper tells numbers that look like chance, the same in every run.
func stepper() func(bits int) int {
	state := uint64(0x9e3779b97f4a7c15)
	return func(bits int) int {
		state ^= state << 13
		state ^= state >> 7
		state ^= state << 17
		return int(int64(state) >> (64 - bits))
	}
}

// edgeInts are ints at which a rule changes: powers of two, their neighbours, and what is near roots.
func edgeInts() []int {
	l := []int{0, 3, -3, 5, -5, 7, -7, 3037000499, 3037000500, -3037000500, math.MinInt, math.MinInt + 1, math.MinInt + 2}
	for _, n := range []uint{0, 1, 2, 3, 31, 32, 33, 40, 61, 62} {
		p := 1 << n
		l = append(l, p-1, p, p+1, -p-1, -p, -p+1)
	}
	return append(l, math.MaxInt, math.MaxInt-1, math.MaxInt-2)
}

// edgeNums are numbers at which a rule changes, the ends and what carries from one half to the other among them.
func edgeNums() []wide.Num {
	his := []int64{0, 1, 2, 3, -1, -2, -3, 1 << 32, -1 << 32, 1<<62 - 1, 1 << 62, -1 << 62, math.MaxInt64 - 1, math.MaxInt64, math.MinInt64, math.MinInt64 + 1}
	los := []uint64{0, 1, 2, 3, 1<<32 - 1, 1 << 32, 1<<63 - 1, 1 << 63, 1<<63 + 1, math.MaxUint64 - 1, math.MaxUint64}
	var l []wide.Num
	for _, hi := range his {
		for _, lo := range los {
			l = append(l, wide.Num{Hi: hi, Lo: lo})
		}
	}
	return l
}

// manyNums are numbers of all sizes.
func manyNums(count int) []wide.Num {
	next := stepper()
	l := make([]wide.Num, count)
	for i := range l {
		hi, lo := next(1+i%64), next(1+i/64%64)
		l[i] = wide.Num{Hi: int64(hi), Lo: uint64(lo)}
	}
	return l
}

func checkNum(t *testing.T, name string, got wide.Num, want *big.Int) {
	t.Helper()
	if value(got).Cmp(want) != 0 {
		t.Errorf("%s: %s; want %s", name, value(got), want)
	}
}

// P2.1: chosen numbers.
func TestNumbersByHand(t *testing.T) {
	least, greatest := wide.Num{Hi: math.MinInt64}, wide.Num{Hi: math.MaxInt64, Lo: math.MaxUint64}
	for _, c := range []struct {
		name      string
		got, want wide.Num
	}{
		{"Of(0)", wide.Of(0), wide.Num{}},
		{"Of(7)", wide.Of(7), wide.Num{Lo: 7}},
		{"Of(-1)", wide.Of(-1), wide.Num{Hi: -1, Lo: math.MaxUint64}},
		{"Of(greatest)", wide.Of(math.MaxInt), wide.Num{Lo: 1<<63 - 1}},
		{"Of(least)", wide.Of(math.MinInt), wide.Num{Hi: -1, Lo: 1 << 63}},
		{"2^40 times 2^40", wide.Mul(1<<40, 1<<40), wide.Num{Hi: 65536}},
		{"0 times -5", wide.Mul(0, -5), wide.Num{}},
		{"-3 times 5", wide.Mul(-3, 5), wide.Num{Hi: -1, Lo: 1<<64 - 15}},
		{"least times least", wide.Mul(math.MinInt, math.MinInt), wide.Num{Hi: 1 << 62}},
		{"least times greatest", wide.Mul(math.MinInt, math.MaxInt), wide.Num{Hi: -1 << 62, Lo: 1 << 63}},
		{"least times -1", wide.Mul(math.MinInt, -1), wide.Num{Lo: 1 << 63}},
		{"carry", wide.Num{Lo: math.MaxUint64}.Add(wide.Of(1)), wide.Num{Hi: 1}},
		{"borrow", wide.Num{Hi: 1}.Sub(wide.Of(1)), wide.Num{Lo: math.MaxUint64}},
		{"greatest and 1", greatest.Add(wide.Of(1)), least},
		{"least less 1", least.Sub(wide.Of(1)), greatest},
		{"least and least", least.Add(least), wide.Num{}},
		{"greatest turned", greatest.Neg(), wide.Num{Hi: math.MinInt64, Lo: 1}},
		{"least turned", least.Neg(), least},
		{"0 turned", wide.Num{}.Neg(), wide.Num{}},
		{"2^64 turned", wide.Num{Hi: 1}.Neg(), wide.Num{Hi: -1}},
		{"1 turned", wide.Of(1).Neg(), wide.Of(-1)},
	} {
		if c.got != c.want {
			t.Errorf("%s: %v; want %v", c.name, c.got, c.want)
		}
	}
}

// P2.1: Of, and Int back.
func TestOfAndBack(t *testing.T) {
	next := stepper()
	l := edgeInts()
	for i := range 10000 {
		l = append(l, next(1+i%64))
	}
	for _, n := range l {
		checkNum(t, "Of", wide.Of(n), big.NewInt(int64(n)))
		if got, ok := wide.Of(n).Int(); got != n || !ok {
			t.Errorf("Of(%d).Int: %d, %t", n, got, ok)
		}
	}
}

// P2.1: Int and Sign, of numbers that are ints and of those that are none.
func TestIntAndSign(t *testing.T) {
	for _, x := range append(edgeNums(), manyNums(10000)...) {
		v := value(x)
		want := 0
		if v.IsInt64() {
			want = int(v.Int64())
		}
		if n, ok := x.Int(); n != want || ok != v.IsInt64() {
			t.Errorf("%v.Int: %d, %t; want %d, %t", x, n, ok, want, v.IsInt64())
		}
		if x.Sign() != v.Sign() {
			t.Errorf("%v.Sign: %d; want %d", x, x.Sign(), v.Sign())
		}
		checkNum(t, "Neg", x.Neg(), wrapped(v.Neg(v)))
	}
}

func checkTwo(t *testing.T, x, y wide.Num) {
	t.Helper()
	v, w := value(x), value(y)
	checkNum(t, "Add", x.Add(y), wrapped(new(big.Int).Add(v, w)))
	checkNum(t, "Sub", x.Sub(y), wrapped(new(big.Int).Sub(v, w)))
	if x.Cmp(y) != v.Cmp(w) {
		t.Errorf("%v.Cmp(%v): %d; want %d", x, y, x.Cmp(y), v.Cmp(w))
	}
}

// P2.1: Add, Sub and Cmp, of every pair of edges and of numbers of all sizes.
func TestOfTwo(t *testing.T) {
	edges := edgeNums()
	for _, x := range edges {
		for _, y := range edges {
			checkTwo(t, x, y)
		}
	}
	many := manyNums(40000)
	for i, x := range many {
		checkTwo(t, x, many[len(many)-1-i])
		checkTwo(t, x, wide.Num{Hi: x.Hi, Lo: many[len(many)-1-i].Lo})
	}
}

// P2.1: what is worked on stays what it was.
func TestNumbersStay(t *testing.T) {
	x, y := wide.Num{Hi: -3, Lo: 5}, wide.Num{Hi: 7, Lo: math.MaxUint64}
	x.Add(y)
	x.Sub(y)
	x.Neg()
	x.Shr(9)
	if x != (wide.Num{Hi: -3, Lo: 5}) || y != (wide.Num{Hi: 7, Lo: math.MaxUint64}) {
		t.Errorf("%v, %v", x, y)
	}
}

// P2.1: Mul, of every pair of edges and of ints of all sizes.
func TestMul(t *testing.T) {
	check := func(a, b int) {
		want := new(big.Int).Mul(big.NewInt(int64(a)), big.NewInt(int64(b)))
		checkNum(t, "Mul", wide.Mul(a, b), want)
	}
	for _, a := range edgeInts() {
		for _, b := range edgeInts() {
			check(a, b)
		}
	}
	next := stepper()
	for i := range 40000 {
		check(next(1+i%64), next(1+i/64%64))
	}
}

// P2.2: chosen numbers.
func TestShrByHand(t *testing.T) {
	least := wide.Num{Hi: math.MinInt64}
	for _, c := range []struct {
		x    wide.Num
		n    int
		want wide.Num
	}{
		{wide.Of(-7), 1, wide.Of(-4)},
		{wide.Of(7), 1, wide.Of(3)},
		{wide.Of(5), 0, wide.Of(5)},
		{wide.Of(5), -3, wide.Of(5)},
		{least, -1, least},
		{least, math.MinInt, least},
		{wide.Num{Hi: 1}, 1, wide.Num{Lo: 1 << 63}},
		{wide.Num{Hi: 3, Lo: 1}, 63, wide.Num{Hi: 0, Lo: 6}},
		{wide.Num{Hi: 3, Lo: 1 << 63}, 64, wide.Of(3)},
		{wide.Num{Hi: -3, Lo: 1 << 63}, 64, wide.Of(-3)},
		{wide.Num{Hi: -3, Lo: 1 << 63}, 65, wide.Of(-2)},
		{wide.Mul(1<<40, 1<<40), 70, wide.Of(1024)},
		{least, 126, wide.Of(-2)},
		{least, 127, wide.Of(-1)},
		{least, 128, wide.Of(-1)},
		{wide.Num{Hi: math.MaxInt64, Lo: math.MaxUint64}, 126, wide.Of(1)},
		{wide.Num{Hi: math.MaxInt64, Lo: math.MaxUint64}, 127, wide.Of(0)},
		{wide.Of(-1), 200, wide.Of(-1)},
		{wide.Of(1), 200, wide.Of(0)},
		{wide.Of(-1), math.MaxInt, wide.Of(-1)},
		{wide.Of(1), math.MaxInt, wide.Of(0)},
		{wide.Of(-6), 1 << 32, wide.Of(-1)},
		{wide.Of(6), 1<<32 + 1, wide.Of(0)},
	} {
		if got := c.x.Shr(c.n); got != c.want {
			t.Errorf("%v.Shr(%d): %v; want %v", c.x, c.n, got, c.want)
		}
	}
}

// P2.2: every shift of the edges and of numbers of all sizes, against exact numbers.
func TestShr(t *testing.T) {
	for _, x := range append(edgeNums(), manyNums(4000)...) {
		for n := -2; n <= 200; n++ {
			want := value(x)
			if n > 0 {
				// Rsh rounds down, of numbers below 0 too; from 128 on that is the promise's -1 or 0.
				want.Rsh(want, uint(n))
			}
			checkNum(t, "Shr", x.Shr(n), want)
		}
	}
}

// wantMulDiv is what MulDiv should answer.
func wantMulDiv(a, b, d int) (int, bool, api.Errno) {
	if d == 0 {
		return 0, false, api.ErrZero
	}
	product := new(big.Int).Mul(big.NewInt(int64(a)), big.NewInt(int64(b)))
	q, exact := floored(product, big.NewInt(int64(d)))
	if !q.IsInt64() {
		return 0, false, api.ErrOverflow
	}
	return int(q.Int64()), exact, api.OK
}

func checkMulDiv(t *testing.T, a, b, d int) {
	t.Helper()
	want, wantExact, wantErr := wantMulDiv(a, b, d)
	if got, exact, e := wide.MulDiv(a, b, d); got != want || exact != wantExact || e != wantErr {
		t.Errorf("MulDiv(%d, %d, %d): %d, %t, %d; want %d, %t, %d", a, b, d, got, exact, e, want, wantExact, wantErr)
	}
}

// P2.3: chosen numbers.
func TestMulDivByHand(t *testing.T) {
	const least, greatest = math.MinInt, math.MaxInt
	for _, c := range []struct {
		a, b, d, want int
		exact         bool
		e             api.Errno
	}{
		{-7, 1, 2, -4, false, api.OK},
		{7, 1, 2, 3, false, api.OK},
		{7, 1, -2, -4, false, api.OK},
		{-7, 1, -2, 3, false, api.OK},
		{-7, -1, 2, 3, false, api.OK},
		{-8, 1, 2, -4, true, api.OK},
		{1, -1, 3, -1, false, api.OK},
		{1, 1, -3, -1, false, api.OK},
		{0, 5, -3, 0, true, api.OK},
		{0, -5, 3, 0, true, api.OK},
		{-5, 0, least, 0, true, api.OK},
		{1, 1, 0, 0, false, api.ErrZero},
		{0, 0, 0, 0, false, api.ErrZero},
		{least, least, 0, 0, false, api.ErrZero},
		{least, 1, 1, least, true, api.OK},
		{least, 1, -1, 0, false, api.ErrOverflow},
		{least, -1, -1, least, true, api.OK},
		{least, -1, 1, 0, false, api.ErrOverflow},
		{least, least, least, least, true, api.OK},
		{least, least, greatest, 0, false, api.ErrOverflow},
		{greatest, least, greatest, least, true, api.OK},
		{greatest, greatest, greatest, greatest, true, api.OK},
		{greatest, greatest, -greatest, -greatest, true, api.OK},
		// Sizes that reach the least int just by being rounded, and those that pass it so.
		{greatest - 1, 1<<62 + 1, -1 << 62, least, false, api.OK},
		{greatest, 1<<62 + 1, -1 << 62, 0, false, api.ErrOverflow},
		{25, 1106804644422573097, -3, 0, false, api.ErrOverflow},
		{25, 1106804644422573097, 3, 0, false, api.ErrOverflow},
		{greatest, 2, -2, -greatest, true, api.OK},
		{1 << 62, -4, 1, 0, false, api.ErrOverflow},
		{1 << 62, 2, 1, 0, false, api.ErrOverflow},
		{1 << 62, 2, -1, least, true, api.OK},
		// Quotients of 64 bits and more.
		{1 << 62, 4, 1, 0, false, api.ErrOverflow},
		{greatest, 2, 1, 0, false, api.ErrOverflow},
		{greatest, 2, -1, 0, false, api.ErrOverflow},
		{1 << 62, 1 << 62, 1, 0, false, api.ErrOverflow},
		{least, least, 1, 0, false, api.ErrOverflow},
		{least, least, -1, 0, false, api.ErrOverflow},
	} {
		if q, exact, e := wide.MulDiv(c.a, c.b, c.d); q != c.want || exact != c.exact || e != c.e {
			t.Errorf("MulDiv(%d, %d, %d): %d, %t, %d; want %d, %t, %d", c.a, c.b, c.d, q, exact, e, c.want, c.exact, c.e)
		}
	}
}

// P2.3: small numbers, every three edges, and ints of all sizes, against exact numbers.
func TestMulDiv(t *testing.T) {
	for a := -9; a <= 9; a++ {
		for b := -9; b <= 9; b++ {
			for d := -9; d <= 9; d++ {
				checkMulDiv(t, a, b, d)
			}
		}
	}
	edges := edgeInts()
	for i, a := range edges {
		for _, b := range edges[i:] {
			for _, d := range edges {
				checkMulDiv(t, a, b, d)
				checkMulDiv(t, b, a, d)
			}
		}
	}
	next := stepper()
	for i := range 100000 {
		checkMulDiv(t, next(1+i%64), next(1+i/64%64), next(1+i*7%61))
	}
}

// P2.3: divisors at which the quotient lies about the ends of an int, and about those of 64 bits.
func TestMulDivAtTheEnds(t *testing.T) {
	next := stepper()
	for i := range 20000 {
		a, b := next(64), next(2+i%63)
		product := wide.Mul(a, b)
		for n := 63; n <= 64; n++ {
			near, _ := product.Shr(n).Int()
			for d := near - 2; d <= near+2; d++ {
				checkMulDiv(t, a, b, d)
				checkMulDiv(t, a, b, -d)
			}
		}
	}
}

// P2.4: chosen numbers.
func TestSqrtByHand(t *testing.T) {
	for _, c := range []struct{ n, want int }{
		{0, 0}, {1, 1}, {2, 1}, {3, 1}, {4, 2}, {15, 3}, {16, 4}, {17, 4},
		{1<<62 - 1, 1<<31 - 1}, {1 << 62, 1 << 31}, {3037000499*3037000499 - 1, 3037000498},
		{3037000499 * 3037000499, 3037000499}, {math.MaxInt, 3037000499},
		{-1, 0}, {-4, 0}, {math.MinInt, 0}, {math.MinInt + 1, 0},
	} {
		if got := wide.Sqrt(c.n); got != c.want {
			t.Errorf("Sqrt(%d): %d; want %d", c.n, got, c.want)
		}
	}
}

// P2.4: small numbers, squares and what is next to them, and ints of all sizes, against exact numbers.
func TestSqrt(t *testing.T) {
	check := func(n int) {
		want := 0
		if n > 0 {
			want = int(new(big.Int).Sqrt(big.NewInt(int64(n))).Int64())
		}
		if got := wide.Sqrt(n); got != want {
			t.Errorf("Sqrt(%d): %d; want %d", n, got, want)
		}
	}
	for n := -100; n <= 70000; n++ {
		check(n)
	}
	next := stepper()
	for i := range 20000 {
		check(next(1 + i%64))
		root := next(2 + i%32)
		check(root*root - 1)
		check(root * root)
		check(root*root + 1)
	}
	for root := 3037000499; root > 3037000499-1000; root-- {
		check(root*root - 1)
		check(root * root)
	}
}
