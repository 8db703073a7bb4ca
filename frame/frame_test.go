package frame_test

import (
	"bytes"
	"encoding/binary"
	"fmt"
	"hash/crc32"
	"math"
	"math/big"
	"slices"
	"testing"

	"limner/api"
	"limner/frame"
)

const (
	least, most = math.MinInt, math.MaxInt

	// rest is what a frame has beside its data, mostData the most data that it may have.
	rest     = 4 + 8 + 1 + 4
	mostData = 1 << 20
)

// wildInts are ints at the ends of what calls are promised something of, and far beyond.
func wildInts() []int {
	return []int{least, least + 1, -1 << 62, -1 << 32, -8193, -8192, -65, -64, -63, -3, -2, -1, 0, 1, 2, 3, 16, 17, 62, 63, 64, 65, 127, 128, 255, 256, 257,
		8191, 8192, mostData - 1, mostData, mostData + 1, 1<<31 - 1, 1 << 31, 1 << 32, 1<<32 + 1, 1 << 62, most - 1, most}
}

// stepper tells numbers that look like chance, the same in every run: from 0 up to n - 1.
func stepper() func(n int) int {
	state := uint64(0x9e3779b97f4a7c15)
	return func(n int) int {
		state ^= state << 13
		state ^= state >> 7
		state ^= state << 17
		return int((state >> 33) % uint64(n))
	}
}

// some tells n bytes of step.
func some(step func(int) int, n int) []byte {
	b := make([]byte, n)
	for i := range b {
		b[i] = byte(step(256))
	}
	return b
}

// wantSum goes through b bit by bit.
func wantSum(b []byte) uint32 {
	sum := uint32(0xffffffff)
	for _, c := range b {
		for k := range 8 {
			bit := sum&1 ^ uint32(c)>>k&1
			sum >>= 1
			if bit == 1 {
				sum ^= 0xedb88320
			}
		}
	}
	return sum ^ 0xffffffff
}

// wantFrame lays a frame of any numbers, also of a record that is not right.
func wantFrame(seq uint64, kind byte, data []byte) []byte {
	b := binary.BigEndian.AppendUint32(nil, uint32(len(data)))
	b = binary.BigEndian.AppendUint64(b, seq)
	b = append(append(b, kind), data...)
	return binary.BigEndian.AppendUint32(b, wantSum(b))
}

func sameRecord(r, o frame.Record) bool {
	return r.Seq == o.Seq && r.Kind == o.Kind && bytes.Equal(r.Data, o.Data)
}

func wantScan(t *testing.T, what string, b []byte, seq int, want []frame.Record, wantEnd int) {
	t.Helper()
	l, end := frame.Scan(b, seq)
	if !slices.EqualFunc(l, want, sameRecord) || end != wantEnd {
		t.Errorf("%s: Scan from %d on: %d records %.200v to %d; want %d records %.200v to %d", what, seq, len(l), fmt.Sprint(l), end, len(want), fmt.Sprint(want), wantEnd)
	}
}

func mustFrame(t *testing.T, r frame.Record) []byte {
	t.Helper()
	b, e := r.Frame()
	if e != api.OK {
		t.Fatalf("Frame of %d, %d: %d", r.Seq, r.Kind, e)
	}
	return b
}

// wantNumber writes n by the document's words, in exact numbers.
func wantNumber(n int) []byte {
	z := new(big.Int).Mul(big.NewInt(int64(n)), big.NewInt(2))
	if n < 0 {
		z.Neg(z).Sub(z, big.NewInt(1))
	}
	return wantGroups(z)
}

func wantGroups(z *big.Int) []byte {
	var b []byte
	for {
		group := new(big.Int).And(z, big.NewInt(127)).Int64()
		z = new(big.Int).Rsh(z, 7)
		if z.Sign() == 0 {
			return append(b, byte(group))
		}
		b = append(b, byte(group)+128)
	}
}

// P13.1: the sum of the document, of nothing, and of texts whose sums are known.
func TestSum(t *testing.T) {
	for _, c := range []struct {
		text string
		want uint32
	}{
		{"123456789", 0xcbf43926}, {"", 0}, {"\x00", 0xd202ef8d}, {"\xff", 0xff000000}, {"a", 0xe8b7be43}, {"abc", 0x352441c2},
		{"The quick brown fox jumps over the lazy dog", 0x414fa339}, {"\x00\x00\x00\x00", 0x2144df1c}, {"\xff\xff\xff\xff", 0xffffffff},
	} {
		if got := frame.Sum([]byte(c.text)); got != c.want {
			t.Errorf("Sum of %q: %08x; want %08x", c.text, got, c.want)
		}
	}
}

// P13.1: sums bit by bit, of all texts of up to two bytes, and of longer ones.
func TestSumBitByBit(t *testing.T) {
	hold := func(b []byte) {
		if got, want := frame.Sum(b), wantSum(b); got != want || want != crc32.ChecksumIEEE(b) {
			t.Fatalf("Sum of %x: %08x; want %08x", b, got, want)
		}
	}
	hold(nil)
	for c := range 256 {
		hold([]byte{byte(c)})
		for d := range 256 {
			hold([]byte{byte(c), byte(d)})
		}
	}
	step := stepper()
	for n := range 600 {
		hold(some(step, n))
	}
	hold(some(step, mostData+3))
}

// P13.1: frames byte by byte.
func TestFrame(t *testing.T) {
	for _, c := range []struct {
		r    frame.Record
		want string
	}{
		{frame.Record{}, "\x00\x00\x00\x00" + "\x00\x00\x00\x00\x00\x00\x00\x00" + "\x00"},
		{frame.Record{Data: []byte{}}, "\x00\x00\x00\x00" + "\x00\x00\x00\x00\x00\x00\x00\x00" + "\x00"},
		{frame.Record{Seq: 258, Kind: 7, Data: []byte("ab")}, "\x00\x00\x00\x02" + "\x00\x00\x00\x00\x00\x00\x01\x02" + "\x07" + "ab"},
		{frame.Record{Seq: 0x0123456789abcdef, Kind: 255, Data: []byte{0}}, "\x00\x00\x00\x01" + "\x01\x23\x45\x67\x89\xab\xcd\xef" + "\xff" + "\x00"},
		{frame.Record{Seq: most, Kind: 128}, "\x00\x00\x00\x00" + "\x7f\xff\xff\xff\xff\xff\xff\xff" + "\x80"},
		{frame.Record{Seq: 1, Data: bytes.Repeat([]byte{9}, 0x10203)}, "\x00\x01\x02\x03" + "\x00\x00\x00\x00\x00\x00\x00\x01" + "\x00" + string(bytes.Repeat([]byte{9}, 0x10203))},
	} {
		want := binary.BigEndian.AppendUint32([]byte(c.want), crc32.ChecksumIEEE([]byte(c.want)))
		if b, e := c.r.Frame(); !bytes.Equal(b, want) || e != api.OK {
			t.Errorf("Frame of %d, %d: %.60x, %d; want %.60x", c.r.Seq, c.r.Kind, b, e, want)
		}
	}
}

// P13.1: Seq from 0 on, Kind from 0 to 255, and at most 2^20 bytes; ErrRange and nothing beside it.
func TestFrameRange(t *testing.T) {
	lens := []int{0, 1, 2, mostData, mostData + 1, mostData + 2}
	for _, seq := range wildInts() {
		for _, kind := range wildInts() {
			right := seq >= 0 && kind >= 0 && kind <= 255
			b, e := frame.Record{Seq: seq, Kind: kind, Data: []byte{5}}.Frame()
			if right != (e == api.OK) || !right && (e != api.ErrRange || b != nil) {
				t.Errorf("Frame of Seq %d, Kind %d: %x, %d", seq, kind, b, e)
			}
			if right && !bytes.Equal(b, wantFrame(uint64(seq), byte(kind), []byte{5})) {
				t.Errorf("Frame of Seq %d, Kind %d: %x", seq, kind, b)
			}
		}
	}
	for _, n := range lens {
		data := bytes.Repeat([]byte{3}, n)
		b, e := frame.Record{Seq: 4, Kind: 5, Data: data}.Frame()
		if n <= mostData && (e != api.OK || !bytes.Equal(b, wantFrame(4, 5, data))) || n > mostData && (e != api.ErrRange || b != nil) {
			t.Errorf("Frame of %d bytes: %d bytes, %d", n, len(b), e)
		}
	}
}

// P13.1: how many bytes a frame has.
func TestSize(t *testing.T) {
	for _, n := range wildInts() {
		want := 0
		if n >= 0 {
			want = n + rest
		}
		if n > most-rest {
			// No int tells it: it must not come out below what a smaller one has.
			want = most
		}
		if got := frame.Size(n); got != want {
			t.Errorf("Size(%d): %d; want %d", n, got, want)
		}
	}
	for _, n := range []int{0, 1, 2, 3, 255, 256, 65536, mostData} {
		b := mustFrame(t, frame.Record{Data: make([]byte, n)})
		if got := frame.Size(n); got != len(b) {
			t.Errorf("Size(%d): %d; the frame has %d bytes", n, got, len(b))
		}
	}
}

// P13.1: the records of bytes, cut anywhere, and with anything behind them.
func TestScan(t *testing.T) {
	l := []frame.Record{{Seq: 7, Kind: 1, Data: []byte("ab")}, {Seq: 8}, {Seq: 9, Kind: 255, Data: []byte{0, 0, 0}}, {Seq: 10, Kind: 3, Data: bytes.Repeat([]byte{1}, 300)}}
	var b []byte
	ends := []int{0}
	for _, r := range l {
		b = append(b, mustFrame(t, r)...)
		ends = append(ends, len(b))
	}
	for cut := range len(b) + 1 {
		whole := 0
		for whole < len(l) && ends[whole+1] <= cut {
			whole++
		}
		wantScan(t, fmt.Sprint("cut at ", cut), b[:cut], 7, l[:whole], ends[whole])
	}
	for _, more := range [][]byte{{0}, make([]byte, 12), make([]byte, 16), make([]byte, 17), make([]byte, 100), bytes.Repeat([]byte{255}, 40), b} {
		wantScan(t, "more behind it", append(slices.Clip(b), more...), 7, l, len(b))
	}
	wantScan(t, "nothing", nil, 0, nil, 0)
	wantScan(t, "nought", make([]byte, 200), 0, nil, 0)
	wantScan(t, "from the second one on", b[ends[1]:], 8, l[1:], len(b)-ends[1])
	wantScan(t, "a byte ahead", append([]byte{0}, b...), 7, nil, 0)
}

// P13.1: any bit that is not as it was ends it.
func TestScanBits(t *testing.T) {
	a := mustFrame(t, frame.Record{Seq: 7, Kind: 1, Data: []byte("abc")})
	b := mustFrame(t, frame.Record{Seq: 8, Kind: 2, Data: []byte("d")})
	both := slices.Concat(a, b)
	for k := range both {
		for bit := range 8 {
			both[k] ^= 1 << bit
			if k < len(a) {
				wantScan(t, fmt.Sprint("bit ", bit, " of byte ", k), both, 7, nil, 0)
			} else {
				wantScan(t, fmt.Sprint("bit ", bit, " of byte ", k), both, 7, []frame.Record{{Seq: 7, Kind: 1, Data: []byte("abc")}}, len(a))
			}
			both[k] ^= 1 << bit
		}
	}
}

// P13.1: Seq are seq, and one more each.
func TestScanSeq(t *testing.T) {
	r := func(seq int) frame.Record { return frame.Record{Seq: seq, Kind: 1, Data: []byte{byte(seq)}} }
	lay := func(seqs ...int) (b []byte) {
		for _, s := range seqs {
			b = append(b, mustFrame(t, r(s))...)
		}
		return b
	}
	const one = rest + 1
	wantScan(t, "the same twice", lay(3, 3), 3, []frame.Record{r(3)}, one)
	wantScan(t, "one left out", lay(3, 4, 6, 5), 3, []frame.Record{r(3), r(4)}, 2*one)
	wantScan(t, "one less", lay(3, 2), 3, []frame.Record{r(3)}, one)
	wantScan(t, "to the greatest one", lay(most-2, most-1, most), most-2, []frame.Record{r(most - 2), r(most - 1), r(most)}, 3*one)
	wantScan(t, "behind the greatest one", lay(most, 0), most, []frame.Record{r(most)}, one)
	for _, seq := range wildInts() {
		if seq != 3 {
			wantScan(t, "another one", lay(3, 4), seq, nil, 0)
		}
		if seq >= 0 && seq < most {
			wantScan(t, "as told", lay(seq, seq+1), seq, []frame.Record{r(seq), r(seq + 1)}, 2*one)
		}
	}
}

// P13.1: only right records have frames, though sums may be right.
func TestScanWrong(t *testing.T) {
	greatest := mustFrame(t, frame.Record{Seq: most})
	for _, seq := range []int{-1, least, least + 1, -2} {
		wantScan(t, "a Seq below 0", wantFrame(uint64(seq), 1, nil), seq, nil, 0)
	}
	wantScan(t, "a Seq behind the greatest one", slices.Concat(greatest, wantFrame(1<<63, 0, nil)), most, []frame.Record{{Seq: most}}, rest)
	for _, n := range []int{mostData - 1, mostData, mostData + 1, mostData + 2, 1 << 21} {
		data := bytes.Repeat([]byte{byte(n)}, n)
		b := slices.Concat(wantFrame(0, 1, data), wantFrame(1, 2, nil))
		if n <= mostData {
			wantScan(t, fmt.Sprint(n, " bytes"), b, 0, []frame.Record{{Kind: 1, Data: data}, {Seq: 1, Kind: 2}}, len(b))
		} else {
			wantScan(t, fmt.Sprint(n, " bytes"), b, 0, nil, 0)
		}
	}
	// A count far behind all bytes.
	for _, n := range []uint32{1, 2, 3, 1 << 20, 1 << 31, 1<<32 - rest, 1<<32 - 1} {
		b := binary.BigEndian.AppendUint32(nil, n)
		b = append(b, make([]byte, 9)...)
		b = binary.BigEndian.AppendUint32(b, wantSum(b))
		wantScan(t, fmt.Sprint("a count of ", n), b, 0, nil, 0)
	}
	turned := wantFrame(0, 1, []byte("xyz"))
	slices.Reverse(turned[len(turned)-4:])
	wantScan(t, "a sum the lowest first", turned, 0, nil, 0)
}

// P13.1: scans of many records of all lengths, byte for byte.
func TestScanMany(t *testing.T) {
	step := stepper()
	for range 200 {
		seq := step(1 << 20)
		var l []frame.Record
		var b []byte
		for k := range step(12) {
			r := frame.Record{Seq: seq + k, Kind: step(256), Data: some(step, step(40))}
			l = append(l, r)
			f := mustFrame(t, r)
			if !bytes.Equal(f, wantFrame(uint64(r.Seq), byte(r.Kind), r.Data)) {
				t.Fatalf("Frame of %v: %x", r, f)
			}
			b = append(b, f...)
		}
		wantScan(t, "many", append(slices.Clip(b), some(step, step(30))...), seq, l, len(b))
	}
}

// P13.2: the numbers of the document, and texts behind one another.
func TestOut(t *testing.T) {
	var o frame.Out
	if b := o.Bytes(); len(b) != 0 {
		t.Errorf("Bytes of the zero Out: %x", b)
	}
	for _, c := range []struct {
		n    int
		want string
	}{
		{0, "\x00"}, {-1, "\x01"}, {1, "\x02"}, {-2, "\x03"}, {-3, "\x05"}, {63, "\x7e"}, {-64, "\x7f"}, {64, "\x80\x01"}, {-65, "\x81\x01"},
		{128, "\x80\x02"}, {8191, "\xfe\x7f"}, {-8192, "\xff\x7f"}, {8192, "\x80\x80\x01"},
		{most, "\xfe\xff\xff\xff\xff\xff\xff\xff\xff\x01"}, {least, "\xff\xff\xff\xff\xff\xff\xff\xff\xff\x01"},
	} {
		var o frame.Out
		if b := o.Int(c.n).Bytes(); string(b) != c.want {
			t.Errorf("Int(%d): %x; want %x", c.n, b, c.want)
		}
	}
	if b := o.Text(nil).Int(5).Text([]byte("hi")).Text([]byte{}).Int(-5).Bytes(); string(b) != "\x00\x0a\x04hi\x00\x09" {
		t.Errorf("Bytes: %x", b)
	}
	long := bytes.Repeat([]byte{7}, 200)
	if b := new(frame.Out).Text(long).Int(0).Bytes(); !bytes.Equal(b, slices.Concat([]byte{0x90, 0x03}, long, []byte{0})) {
		t.Errorf("Bytes: %x", b)
	}
}

// P13.2: an Out tells itself, and has more with each call.
func TestOutItself(t *testing.T) {
	o := new(frame.Out)
	if o.Int(1) != o || o.Text([]byte("a")) != o {
		t.Errorf("Int, Text: another Out")
	}
	o.Int(2)
	o.Text([]byte("b"))
	for range 2 {
		if b := o.Bytes(); string(b) != "\x02\x02a\x04\x02b" {
			t.Errorf("Bytes: %x", b)
		}
	}
}

// numbers are at the ends of how many groups they have, and others.
func numbers() []int {
	l := wildInts()
	for k := range 63 {
		for d := -2; d <= 2; d++ {
			l = append(l, 1<<k+d, -1<<k+d)
		}
	}
	step := stepper()
	for range 2000 {
		l = append(l, (step(1<<31)<<33^step(1<<31)<<2^step(4))>>step(64))
	}
	return l
}

// P13.2, P13.3: numbers are written in exact groups, and read back.
func TestNumbers(t *testing.T) {
	var all frame.Out
	for _, n := range numbers() {
		var o frame.Out
		b := o.Int(n).Bytes()
		if want := wantNumber(n); !bytes.Equal(b, want) {
			t.Errorf("Int(%d): %x; want %x", n, b, want)
		}
		in := frame.NewIn(b)
		if got := in.Int(); got != n || in.Bad() || !in.Done() {
			t.Errorf("Int of %x: %d, %t, %t; want %d", b, got, in.Bad(), in.Done(), n)
		}
		all.Int(n)
	}
	in := frame.NewIn(all.Bytes())
	for _, n := range numbers() {
		if in.Done() || in.Bad() {
			t.Fatalf("ahead of %d: Done: %t, Bad: %t", n, in.Done(), in.Bad())
		}
		if got := in.Int(); got != n {
			t.Fatalf("Int: %d; want %d", got, n)
		}
	}
	if !in.Done() || in.Bad() {
		t.Errorf("Done: %t, Bad: %t", in.Done(), in.Bad())
	}
}

// wantBad holds that in is bad, and that nothing is read from it any more.
func wantBad(t *testing.T, what string, in *frame.In) {
	t.Helper()
	for range 2 {
		if !in.Bad() || in.Done() {
			t.Fatalf("%s: Bad: %t, Done: %t", what, in.Bad(), in.Done())
		}
		if n, text, c := in.Int(), in.Text(), in.Count(most); n != 0 || text != nil || c != 0 {
			t.Fatalf("%s: it is bad, and tells %d, %x, %d", what, n, text, c)
		}
	}
}

// behind is what is left behind what is bad: three numbers, which would be read if it were not.
const behind = "\x02\x02\x02"

// P13.3: numbers that are none, or are not written as they must be.
func TestBadNumbers(t *testing.T) {
	for _, s := range []string{
		"\x80\x00", "\x81\x00", "\xff\x00", "\x80\x80\x00", "\xff\xff\x00", "\xff\xff\xff\xff\xff\xff\xff\xff\xff\x00",
		"\xff\xff\xff\xff\xff\xff\xff\xff\xff\x02", "\xff\xff\xff\xff\xff\xff\xff\xff\xff\x03", "\x80\x80\x80\x80\x80\x80\x80\x80\x80\x02", "\x80\x80\x80\x80\x80\x80\x80\x80\x80\x7f",
		"\x80\x80\x80\x80\x80\x80\x80\x80\x80\x80\x01", "\xff\xff\xff\xff\xff\xff\xff\xff\xff\x81\x00", "\xff\xff\xff\xff\xff\xff\xff\xff\xff\x80\x00", "\x80\x80\x80\x80\x80\x80\x80\x80\x80\x80\x00",
		"\x81\x80\x80\x80\x80\x80\x80\x80\x80\x80\x80\x80\x01", "\x80\x80\x80\x80\x80\x80\x80\x80\x80\x80\x80\x80\x80\x80\x80\x80\x80\x80\x80\x80\x01",
	} {
		for name, read := range readers() {
			in := frame.NewIn([]byte(s + behind))
			if !read(in) {
				t.Errorf("%s of %x tells something", name, s)
			}
			wantBad(t, fmt.Sprintf("%s of %x", name, s), in)
		}
	}
	for _, s := range []string{"", "\x80", "\xff", "\x80\x80", "\xff\xff\xff\xff\xff\xff\xff\xff\xff", "\x80\x80\x80\x80\x80\x80\x80\x80\x80\x80\x80\x80"} {
		for name, read := range readers() {
			in := frame.NewIn([]byte(s))
			if !read(in) {
				t.Errorf("%s of %x tells something", name, s)
			}
			wantBad(t, fmt.Sprintf("%s of %x", name, s), in)
		}
	}
}

// readers read what is bad, and tell whether they told nothing.
func readers() map[string]func(in *frame.In) bool {
	return map[string]func(in *frame.In) bool{
		"Int":   func(in *frame.In) bool { return in.Int() == 0 },
		"Text":  func(in *frame.In) bool { return in.Text() == nil },
		"Count": func(in *frame.In) bool { return in.Count(most) == 0 },
	}
}

// wantRead reads a number from b by the document's words: it is there, if what it says is written so.
func wantRead(b []byte) (n, size int, ok bool) {
	for k, c := range b {
		if c >= 128 {
			continue
		}
		z := new(big.Int)
		for j := k; j >= 0; j-- {
			z.Lsh(z, 7).Or(z, big.NewInt(int64(b[j]&127)))
		}
		if z.BitLen() > 64 || !bytes.Equal(wantGroups(z), b[:k+1]) {
			return 0, 0, false
		}
		half := new(big.Int).Rsh(z, 1)
		if z.Bit(0) == 1 {
			half.Neg(half).Sub(half, big.NewInt(1))
		}
		return int(half.Int64()), k + 1, true
	}
	return 0, 0, false
}

// P13.3: any bytes, read number by number.
func TestAnyNumbers(t *testing.T) {
	step := stepper()
	hold := func(b []byte) {
		in := frame.NewIn(b)
		for at := 0; ; {
			want, size, ok := wantRead(b[at:])
			if in.Done() != (at == len(b)) || in.Bad() {
				t.Fatalf("%x at %d: Done: %t, Bad: %t", b, at, in.Done(), in.Bad())
			}
			if got := in.Int(); got != want || in.Bad() == ok {
				t.Fatalf("%x at %d: %d, %t; want %d, %t", b, at, got, in.Bad(), want, !ok)
			}
			if !ok {
				wantBad(t, fmt.Sprintf("%x", b), in)
				return
			}
			at += size
		}
	}
	for c := range 256 {
		for d := range 256 {
			hold([]byte{byte(c), byte(d)})
		}
	}
	odd := []byte{0, 1, 2, 127, 128, 129, 255, 255, 255, 128, 255}
	for range 20000 {
		b := make([]byte, step(24))
		for i := range b {
			b[i] = odd[step(len(odd))]
		}
		hold(b)
	}
}

// P13.3: texts, one behind the other, and of none and of many bytes.
func TestText(t *testing.T) {
	long := some(stepper(), 1000)
	texts := [][]byte{[]byte("hi"), nil, []byte("\x00\x80\xff"), long, {}, []byte("é"), long[:63], long[:64]}
	var o frame.Out
	for _, b := range texts {
		o.Text(b)
	}
	in := frame.NewIn(o.Bytes())
	for k, want := range texts {
		if in.Done() {
			t.Fatalf("done ahead of text %d", k)
		}
		if got := in.Text(); !bytes.Equal(got, want) || in.Bad() {
			t.Fatalf("text %d: %x, %t; want %x", k, got, in.Bad(), want)
		}
	}
	if !in.Done() || in.Bad() {
		t.Errorf("Done: %t, Bad: %t", in.Done(), in.Bad())
	}
	if text := in.Text(); text != nil {
		t.Errorf("a text behind all: %x", text)
	}
	wantBad(t, "behind all", in)
}

// P13.3: a text of fewer bytes than are left leaves them, one of more is none, and one of fewer than nothing is none.
func TestTextCounts(t *testing.T) {
	left := []byte("\x02abcdefgh")
	counts := append(wildInts(), 4, 5, 6, 7, 8, 9, 10)
	for _, n := range counts {
		var o frame.Out
		in := frame.NewIn(append(o.Int(n).Bytes(), left...))
		text := in.Text()
		if n < 0 || n > len(left) {
			if text != nil {
				t.Errorf("a text of %d bytes: %x", n, text)
			}
			wantBad(t, fmt.Sprint("a text of ", n, " bytes"), in)
			continue
		}
		if !bytes.Equal(text, left[:n]) || in.Bad() || in.Done() != (n == len(left)) {
			t.Errorf("a text of %d bytes: %x, %t, %t", n, text, in.Bad(), in.Done())
		}
		if n == 0 && (in.Int() != 1 || in.Bad()) {
			t.Errorf("behind a text of no bytes: bad")
		}
	}
}

// P13.3: a count is from 0 to most.
func TestCount(t *testing.T) {
	for _, n := range wildInts() {
		for _, top := range wildInts() {
			var o frame.Out
			in := frame.NewIn(o.Int(n).Int(1).Bytes())
			got := in.Count(top)
			if n < 0 || n > top {
				if got != 0 {
					t.Errorf("Count(%d) of %d: %d", top, n, got)
				}
				wantBad(t, fmt.Sprintf("Count(%d) of %d", top, n), in)
				continue
			}
			if got != n || in.Bad() || in.Done() || in.Int() != 1 || !in.Done() {
				t.Errorf("Count(%d) of %d: %d, %t", top, n, got, in.Bad())
			}
		}
	}
}

// P13.3: nothing is read of nothing, and is done at once.
func TestNothing(t *testing.T) {
	for _, b := range [][]byte{nil, {}} {
		in := frame.NewIn(b)
		if !in.Done() || in.Bad() {
			t.Errorf("NewIn of nothing: Done: %t, Bad: %t", in.Done(), in.Bad())
		}
		if in.Int() != 0 {
			t.Errorf("Int of nothing")
		}
		wantBad(t, "nothing", in)
	}
	in := frame.NewIn([]byte("\x02"))
	if in.Done() || in.Bad() {
		t.Errorf("NewIn: Done: %t, Bad: %t", in.Done(), in.Bad())
	}
}

// P13.2, P13.3: sequences of numbers and texts come back as they were.
func TestBackAndForth(t *testing.T) {
	step := stepper()
	l := numbers()
	for range 300 {
		var o frame.Out
		var want []byte
		var ask []func(in *frame.In) bool
		for range step(20) {
			if step(2) == 0 {
				n := l[step(len(l))]
				o.Int(n)
				want = append(want, wantNumber(n)...)
				ask = append(ask, func(in *frame.In) bool { return in.Int() == n })
				continue
			}
			text := some(step, step(100))
			o.Text(text)
			want = append(append(want, wantNumber(len(text))...), text...)
			ask = append(ask, func(in *frame.In) bool { return bytes.Equal(in.Text(), text) })
		}
		if got := o.Bytes(); !bytes.Equal(got, want) {
			t.Fatalf("Bytes: %x; want %x", got, want)
		}
		in := frame.NewIn(want)
		for k, read := range ask {
			if in.Done() || !read(in) || in.Bad() {
				t.Fatalf("%x: what comes back as number %d is another", want, k)
			}
		}
		if !in.Done() {
			t.Fatalf("%x: not done", want)
		}
	}
}

// full tells b in the midst of memory, with spare room behind it that is all c.
func full(b []byte, c byte) []byte {
	all := append(bytes.Clone(b), bytes.Repeat([]byte{c}, 32)...)
	return all[:len(b)]
}

// spoil changes b and its spare room; what is spoilt twice, as two have it, is not as it was either.
func spoil(b []byte) {
	b = b[:cap(b)]
	for i := range b {
		b[i] += 0x5b
	}
}

// wantUntouched holds that b and its spare room are as full made them.
func wantUntouched(t *testing.T, what string, b, was []byte, c byte) {
	t.Helper()
	if !bytes.Equal(b, was) || !bytes.Equal(b[len(b):len(b)+32], bytes.Repeat([]byte{c}, 32)) {
		t.Errorf("%s: what was handed in is %x now", what, b[:len(b)+32])
	}
}

// P13.4: Sum, Frame and Scan.
func TestMemoryOfFrames(t *testing.T) {
	data := full([]byte("abc"), 0xcc)
	r := frame.Record{Seq: 1, Kind: 2, Data: data}
	f := mustFrame(t, r)
	was := bytes.Clone(f)
	again := mustFrame(t, r)
	wantUntouched(t, "Frame", data, []byte("abc"), 0xcc)
	spoil(again)
	spoil(data)
	if !bytes.Equal(f, was) {
		t.Errorf("Frame: %x; was %x", f, was)
	}

	two := slices.Concat(was, wantFrame(2, 3, []byte("de")), wantFrame(3, 4, nil), wantFrame(4, 5, []byte("f")))
	b := full(two, 0xcc)
	if sum := frame.Sum(b); sum != wantSum(two) {
		t.Errorf("Sum: %x", sum)
	}
	wantUntouched(t, "Sum", b, two, 0xcc)
	want := []frame.Record{{Seq: 1, Kind: 2, Data: []byte("abc")}, {Seq: 2, Kind: 3, Data: []byte("de")}, {Seq: 3, Kind: 4}, {Seq: 4, Kind: 5, Data: []byte("f")}}
	l, _ := frame.Scan(b, 1)
	o, _ := frame.Scan(b, 1)
	wantUntouched(t, "Scan", b, two, 0xcc)
	spoil(b)
	for _, r := range o {
		spoil(r.Data)
	}
	clear(o[:cap(o)])
	for i := range l {
		if !slices.EqualFunc(l[i:], want[i:], sameRecord) {
			t.Errorf("Scan: %v; want %v", l[i:], want[i:])
		}
		spoil(l[i].Data)
	}
}

// P13.4: Out keeps nothing that it is handed, and tells nothing that it keeps.
func TestMemoryOfOut(t *testing.T) {
	for _, n := range []int{1, 3, 8, 100} {
		was := bytes.Repeat([]byte{7}, n)
		text := full(was, 0xcc)
		var o frame.Out
		o.Text(text)
		wantUntouched(t, "Text", text, was, 0xcc)
		spoil(text)
		b := o.Bytes()
		want := append(wantNumber(n), was...)
		if !bytes.Equal(b, want) {
			t.Fatalf("Bytes: %x; want %x", b, want)
		}
		spoil(b)
		c := o.Bytes()
		if !bytes.Equal(c, want) {
			t.Fatalf("Bytes: %x; want %x", c, want)
		}
		o.Int(1).Int(2).Int(3)
		if !bytes.Equal(c, want) || !bytes.Equal(o.Bytes(), append(want, 2, 4, 6)) {
			t.Fatalf("Bytes: %x, %x; want %x", c, o.Bytes(), want)
		}
	}
}

// P13.4: who changes Bytes' spare room does not change what comes behind, and the other way round.
func TestSpareRoomOfOut(t *testing.T) {
	var o frame.Out
	for k := range 100 {
		o.Int(1)
		b := o.Bytes()
		spoil(b)
		c := o.Bytes()
		d := slices.Clone(c[:cap(c)])
		o.Int(1)
		if !bytes.Equal(d, c[:cap(c)]) {
			t.Fatalf("Int writes into the spare room of what was told")
		}
		spoil(c)
		if want := bytes.Repeat([]byte{2}, 2*k+2); !bytes.Equal(o.Bytes(), want) {
			t.Fatalf("Bytes: %x; want %x", o.Bytes(), want)
		}
	}
}

// P13.4: In keeps nothing that it is handed, and tells texts that nothing else has.
func TestMemoryOfIn(t *testing.T) {
	var o frame.Out
	was := o.Text([]byte("abc")).Text(nil).Text([]byte("de")).Int(9).Text([]byte("f")).Bytes()
	b := full(was, 0xcc)
	in, other := frame.NewIn(b), frame.NewIn(b)
	first := in.Text()
	spoil(b)
	spoil(other.Text())
	spoil(other.Text())
	// What is put behind a text must be read nowhere.
	second := in.Text()
	_ = append(first, "xxxx"...)
	_ = append(second, "xxxx"...)
	third := in.Text()
	_ = append(third, "xxxx"...)
	if string(first) != "abc" || len(second) != 0 || string(third) != "de" || in.Int() != 9 || string(in.Text()) != "f" || !in.Done() {
		t.Errorf("read: %q, %q, %q", first, second, third)
	}
	spoil(second)
	spoil(third)
	if string(first) != "abc" {
		t.Errorf("the first text is %q now", first)
	}
	if string(other.Text()) != "de" || other.Int() != 9 || string(other.Text()) != "f" || !other.Done() {
		t.Errorf("another In reads something else")
	}
	b = full(was, 0xcc)
	for in := frame.NewIn(b); !in.Done() && !in.Bad(); {
		spoil(in.Text())
	}
	wantUntouched(t, "NewIn", b, was, 0xcc)
}

// P13.3, P13.4: a text's room ends with it.
func TestTextRoom(t *testing.T) {
	var o frame.Out
	in := frame.NewIn(o.Text([]byte("abc")).Text([]byte("d")).Text(nil).Bytes())
	for range 3 {
		if text := in.Text(); cap(text) != len(text) {
			t.Errorf("a text of %d bytes has room for %d", len(text), cap(text))
		}
	}
}

// P1: nothing panics, whatever it is given.
func TestWild(t *testing.T) {
	step := stepper()
	for _, n := range wildInts() {
		frame.Size(n)
		for range 20 {
			b := some(step, step(40))
			frame.Scan(b, n)
			in := frame.NewIn(b)
			for range 5 {
				in.Count(n)
				in.Text()
			}
			new(frame.Out).Int(n).Text(b).Bytes()
		}
	}
}
