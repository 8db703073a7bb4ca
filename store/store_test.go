package store_test

import (
	"bytes"
	"encoding/binary"
	"fmt"
	"math"
	"slices"
	"testing"

	"limner/api"
	"limner/disk"
	"limner/store"
)

const (
	least, most = math.MinInt, math.MaxInt

	// The disks of most tests have ten sectors of 32 bytes: halves of four sectors, from 2 and from 6 on.
	sectors  = 10
	size     = 32
	capacity = 4 * size

	// greatest is the most bytes that a header can tell of, for the snapshot or for the log.
	greatest = 1 << 31

	// never is what no write's number is.
	never = -1
)

// stepper tells numbers that look like chance, the same in every run: from 0 up to n - 1.
func stepper() func(n int) int {
	state := uint64(0x9e3779b97f4a7c15)
	return func(n int) int {
		state ^= state << 13
		state ^= state >> 7
		state ^= state << 17
		return int((state >> 33) % uint64(n))
	}
}

// some tells n bytes of step, none of them nought.
func some(step func(int) int, n int) []byte {
	b := make([]byte, n)
	for i := range b {
		b[i] = byte(1 + step(255))
	}
	return b
}

// run tells n bytes that are all different from those next to them, from c on.
func run(c byte, n int) []byte {
	b := make([]byte, n)
	for i := range b {
		b[i] = c + byte(i)
	}
	return b
}

// wantHeader lays a header's bytes by the document's words, of any numbers.
func wantHeader(gen uint64, half byte, snap, log uint32, size int) []byte {
	b := binary.BigEndian.AppendUint64(nil, gen)
	b = append(b, half)
	b = binary.BigEndian.AppendUint32(b, snap)
	b = binary.BigEndian.AppendUint32(b, log)
	b = append(b, make([]byte, size-8-len(b))...)
	return binary.BigEndian.AppendUint64(b, gen)
}

// bytesOf lays the bytes of a header that is right.
func bytesOf(h store.Header, size int) []byte {
	return wantHeader(uint64(h.Gen), byte(h.Half), uint32(h.Snap), uint32(h.Log), size)
}

// wantDecode reads a header by the document's words.
func wantDecode(b []byte, capacity int) (store.Header, bool) {
	if len(b) < 32 {
		return store.Header{}, false
	}
	gen, half := binary.BigEndian.Uint64(b), b[8]
	snap, log := binary.BigEndian.Uint32(b[9:]), binary.BigEndian.Uint32(b[13:])
	right := 1 <= gen && gen <= most && half <= 1 && snap <= greatest && log <= greatest && int(snap)+int(log) <= capacity
	if !right || !bytes.Equal(b, wantHeader(gen, half, snap, log, len(b))) {
		return store.Header{}, false
	}
	return store.Header{Gen: int(gen), Half: int(half), Snap: int(snap), Log: int(log)}, true
}

// P14.1: the bytes of headers, in sectors of many sizes.
func TestEncode(t *testing.T) {
	for _, h := range []store.Header{
		{}, {Gen: 1}, {Half: 1}, {Snap: 1}, {Log: 1}, {Gen: 258, Half: 1, Snap: 3, Log: 5},
		{Gen: 0x0102030405060708, Half: 1, Snap: 0x11121314, Log: 0x21222324},
		{Gen: most, Half: 1, Snap: greatest, Log: greatest}, {Gen: most - 1, Snap: greatest - 1, Log: greatest - 1},
	} {
		for _, size := range []int{32, 33, 40, 41, 64, 512, 513, 5000} {
			want := bytesOf(h, size)
			if got := store.Encode(h, size); !bytes.Equal(got, want) || len(got) != size {
				t.Errorf("Encode of %v in %d: %x; want %x", h, size, got, want)
			}
		}
	}
}

// P14.1: the bytes of one header, by hand.
func TestEncodeByHand(t *testing.T) {
	got := store.Encode(store.Header{Gen: 0x0102030405060708, Half: 1, Snap: 0x090a0b0c, Log: 0x0d0e0f10}, 34)
	want := []byte{1, 2, 3, 4, 5, 6, 7, 8, 1, 9, 10, 11, 12, 13, 14, 15, 16, 0, 0, 0, 0, 0, 0, 0, 0, 0, 1, 2, 3, 4, 5, 6, 7, 8}
	if !bytes.Equal(got, want) {
		t.Errorf("Encode: %v; want %v", got, want)
	}
}

// P14.1: no bytes of what has no room there.
func TestEncodeNothing(t *testing.T) {
	right := store.Header{Gen: 7, Half: 1, Snap: 3, Log: 5}
	for _, size := range []int{31, 30, 25, 16, 8, 1, 0, -1, -32, least} {
		if b := store.Encode(right, size); len(b) != 0 {
			t.Errorf("Encode in %d: %x", size, b)
		}
	}
	for _, h := range []store.Header{
		{Gen: -1, Half: 1, Snap: 3, Log: 5}, {Gen: least, Half: 1, Snap: 3, Log: 5},
		{Gen: 7, Half: -1, Snap: 3, Log: 5}, {Gen: 7, Half: 2, Snap: 3, Log: 5}, {Gen: 7, Half: 256, Snap: 3, Log: 5}, {Gen: 7, Half: 257, Snap: 3, Log: 5}, {Gen: 7, Half: least}, {Gen: 7, Half: most},
		{Gen: 7, Half: 1, Snap: -1, Log: 5}, {Gen: 7, Half: 1, Snap: greatest + 1, Log: 5}, {Gen: 7, Snap: 1 << 32, Log: 5}, {Gen: 7, Snap: least}, {Gen: 7, Snap: most},
		{Gen: 7, Half: 1, Snap: 3, Log: -1}, {Gen: 7, Half: 1, Snap: 3, Log: greatest + 1}, {Gen: 7, Snap: 3, Log: 1 << 32}, {Gen: 7, Log: least}, {Gen: 7, Log: most},
	} {
		if b := store.Encode(h, 32); len(b) != 0 {
			t.Errorf("Encode of %v: %x", h, b)
		}
	}
}

func holdDecode(t *testing.T, b []byte, capacity int) {
	t.Helper()
	h, ok := store.Decode(b, capacity)
	if want, wantOk := wantDecode(b, capacity); h != want || ok != wantOk {
		t.Errorf("Decode of %x for %d: %v, %t; want %v, %t", b, capacity, h, ok, want, wantOk)
	}
}

// P14.1: headers come back, if the capacity has room for what they tell of.
func TestDecode(t *testing.T) {
	for _, c := range []struct {
		h        store.Header
		capacity int
		ok       bool
	}{
		{store.Header{Gen: 1}, 0, true}, {store.Header{Gen: 1}, -1, false}, {store.Header{Gen: 1}, least, false}, {store.Header{Gen: 1}, most, true},
		{store.Header{}, 100, false}, {store.Header{Half: 1, Snap: 2, Log: 3}, 100, false},
		{store.Header{Gen: 9, Half: 1, Snap: 3, Log: 5}, 8, true}, {store.Header{Gen: 9, Half: 1, Snap: 3, Log: 5}, 9, true}, {store.Header{Gen: 9, Half: 1, Snap: 3, Log: 5}, 7, false},
		{store.Header{Gen: 9, Snap: 8}, 8, true}, {store.Header{Gen: 9, Snap: 8}, 7, false}, {store.Header{Gen: 9, Log: 8}, 8, true}, {store.Header{Gen: 9, Log: 8}, 7, false},
		{store.Header{Gen: most, Snap: greatest, Log: greatest}, 2 * greatest, true}, {store.Header{Gen: most, Snap: greatest, Log: greatest}, 2*greatest - 1, false},
		{store.Header{Gen: most, Half: 1, Snap: greatest}, greatest, true}, {store.Header{Gen: 1 << 62, Half: 1, Log: greatest}, greatest - 1, false},
	} {
		want := store.Header{}
		if c.ok {
			want = c.h
		}
		for _, size := range []int{32, 33, 512, 777} {
			if h, ok := store.Decode(bytesOf(c.h, size), c.capacity); h != want || ok != c.ok {
				t.Errorf("Decode of %v in %d for %d: %v, %t", c.h, size, c.capacity, h, ok)
			}
		}
	}
}

// P14.1: bytes that are those of no header.
func TestDecodeWrong(t *testing.T) {
	for _, b := range [][]byte{
		nil, {}, {1}, make([]byte, 31), make([]byte, 32), make([]byte, 512), bytes.Repeat([]byte{0xff}, 32), bytes.Repeat([]byte{1}, 32),
		wantHeader(1, 0, 0, 0, 31), wantHeader(1, 0, 0, 0, 25),
		wantHeader(0, 0, 0, 0, 32), wantHeader(0, 1, 2, 3, 32),
		wantHeader(1<<63, 0, 0, 0, 32), wantHeader(1<<63+1, 0, 0, 0, 32), wantHeader(math.MaxUint64, 1, 2, 3, 32),
		wantHeader(1, 2, 0, 0, 32), wantHeader(1, 255, 0, 0, 32), wantHeader(1, 128, 0, 0, 32),
		wantHeader(1, 0, greatest+1, 0, 32), wantHeader(1, 0, 0, greatest+1, 32), wantHeader(1, 1, math.MaxUint32, math.MaxUint32, 32),
	} {
		if h, ok := store.Decode(b, most); h != (store.Header{}) || ok {
			t.Errorf("Decode of %x: %v, %t", b, h, ok)
		}
	}
}

// P14.1: a header with each of its bytes changed, to all that it may be; and cut, and with more behind it.
func TestDecodeBytes(t *testing.T) {
	for _, h := range []store.Header{{Gen: 1}, {Gen: 258, Half: 1, Snap: 3, Log: 5}, {Gen: most, Snap: 1 << 20, Log: 1 << 30}} {
		for _, size := range []int{32, 33, 47} {
			right := bytesOf(h, size)
			for i := range right {
				for c := range 256 {
					b := bytes.Clone(right)
					b[i] = byte(c)
					holdDecode(t, b, 1000)
					holdDecode(t, b, most)
				}
				holdDecode(t, right[:i], most)
				holdDecode(t, append(bytes.Clone(right), right[:i]...), most)
			}
		}
	}
}

// P14.1: both generations changed at once.
func TestDecodeGenerations(t *testing.T) {
	for i := range 8 {
		for c := range 256 {
			b := bytesOf(store.Header{Gen: 258, Half: 1, Snap: 3, Log: 5}, size)
			b[i], b[size-8+i] = byte(c), byte(c)
			holdDecode(t, b, 8)
		}
	}
}

// P14.3: how many bytes a half has, and a disk's.
func TestCapacity(t *testing.T) {
	for n := 1; n <= 14; n++ {
		for size := 16; size <= 40; size++ {
			want := 0
			if n >= 4 && size >= 32 {
				want = (n - 2) / 2 * size
			}
			if got := store.Capacity(disk.New(n, size)); got != want {
				t.Errorf("Capacity of %d sectors of %d: %d; want %d", n, size, got, want)
			}
		}
	}
	if got := store.Capacity(disk.New(4096, 512)); got != 2047*512 {
		t.Errorf("Capacity of the greatest: %d", got)
	}
	if got := store.Capacity(nil); got != 0 {
		t.Errorf("Capacity of nil: %d", got)
	}
}

func mustFormat(t *testing.T, d *disk.Disk) {
	t.Helper()
	if e := store.Format(d); e != api.OK {
		t.Fatalf("Format: %d", e)
	}
}

func mustOpen(t *testing.T, d *disk.Disk) *store.Store {
	t.Helper()
	s, e := store.Open(d)
	if e != api.OK || s == nil {
		t.Fatalf("Open: %v, %d", s, e)
	}
	return s
}

func mustAppend(t *testing.T, s *store.Store, b []byte) {
	t.Helper()
	if e := s.Append(b); e != api.OK {
		t.Fatalf("Append of %d bytes: %d", len(b), e)
	}
}

func mustCompact(t *testing.T, s *store.Store, b []byte) {
	t.Helper()
	if e := s.Compact(b); e != api.OK {
		t.Fatalf("Compact to %d bytes: %d", len(b), e)
	}
}

// fresh tells a disk that was formatted, and its store.
func fresh(t *testing.T) (*disk.Disk, *store.Store) {
	t.Helper()
	d := disk.New(sectors, size)
	mustFormat(t, d)
	return d, mustOpen(t, d)
}

// state is what a store tells.
type state struct {
	h         store.Header
	snap, log string
}

func (w state) String() string { return fmt.Sprintf("%v %x %x", w.h, w.snap, w.log) }

func stateOf(s *store.Store) state {
	return state{h: s.Header(), snap: string(s.Snapshot()), log: string(s.Log())}
}

// wantState holds all that s tells.
func wantState(t *testing.T, what string, s *store.Store, want state) {
	t.Helper()
	if got := stateOf(s); got != want {
		t.Errorf("%s: the store has %v; want %v", what, got, want)
	}
	used := len(want.snap) + len(want.log)
	if s.Used() != used || s.Room() != s.Capacity()-used {
		t.Errorf("%s: Used %d, Room %d of %d; want %d", what, s.Used(), s.Room(), s.Capacity(), used)
	}
}

// wantOpened holds that d has that store.
func wantOpened(t *testing.T, what string, d *disk.Disk, want state) {
	t.Helper()
	s, e := store.Open(d)
	if e != api.OK {
		t.Errorf("%s: Open: %d", what, e)
		return
	}
	wantState(t, what, s, want)
}

// lay writes bytes into a sector by hand.
func lay(t *testing.T, d *disk.Disk, i int, b []byte) {
	t.Helper()
	if e := d.Write(i, append(bytes.Clone(b), make([]byte, d.Size()-len(b))...)); e != api.OK {
		t.Fatalf("Write(%d): %d", i, e)
	}
	d.Sync()
}

// sectorsOf tells d's bytes, sector by sector.
func sectorsOf(d *disk.Disk) [][]byte { return slices.Collect(slices.Chunk(d.Image(), d.Size())) }

// down tells a disk whose power is gone.
func down(d *disk.Disk) *disk.Disk {
	d.Arm(0)
	d.Sync()
	return d
}

// P14.2: what can't bear a store.
func TestRange(t *testing.T) {
	for _, d := range []*disk.Disk{nil, disk.New(3, 32), disk.New(1, 512), disk.New(3, 512), disk.New(4, 31), disk.New(4096, 16), disk.New(4096, 31), down(disk.New(3, 32))} {
		if e := store.Format(d); e != api.ErrRange {
			t.Errorf("Format: %d", e)
		}
		if s, e := store.Open(d); s != nil || e != api.ErrRange {
			t.Errorf("Open: %v, %d", s, e)
		}
		if d != nil && d.Done() != 0 {
			t.Errorf("%d commands", d.Done())
		}
	}
}

// P14.2: the least disks, with a half of one sector; the greatest; odd sectors, of which the last one is in no half.
func TestFormat(t *testing.T) {
	for _, c := range []struct{ sectors, size, capacity int }{{4, 32, 32}, {5, 32, 32}, {6, 33, 66}, {7, 40, 80}, {10, 32, 128}, {4096, 512, 2047 * 512}} {
		d := disk.New(c.sectors, c.size)
		mustFormat(t, d)
		want := make([]byte, c.sectors*c.size)
		copy(want[c.size:], bytesOf(store.Header{Gen: 1}, c.size))
		if !bytes.Equal(d.Image(), want) || d.Done() != 5 || len(d.Waiting()) != 0 {
			t.Errorf("Format of %v: %d commands, %d waiting", c, d.Done(), len(d.Waiting()))
		}
		s := mustOpen(t, d)
		wantState(t, fmt.Sprint(c), s, state{h: store.Header{Gen: 1}})
		if s.Capacity() != c.capacity || s.Room() != c.capacity {
			t.Errorf("%v: Capacity %d, Room %d", c, s.Capacity(), s.Room())
		}
	}
}

// P14.2: a store that was there goes, its greater generations too; the halves are not written.
func TestFormatAgain(t *testing.T) {
	for n := range 5 {
		d, s := fresh(t)
		for k := range n {
			mustAppend(t, s, run(byte(10*k), 9))
		}
		mustCompact(t, s, run(100, 70))
		was := sectorsOf(d)
		done := d.Done()
		mustFormat(t, d)
		now := sectorsOf(d)
		if !bytes.Equal(now[0], make([]byte, size)) || !bytes.Equal(now[1], bytesOf(store.Header{Gen: 1}, size)) || d.Done()-done != 5 {
			t.Errorf("Format behind %d: %x, %d commands", n, now[:2], d.Done()-done)
		}
		if !slices.EqualFunc(now[2:], was[2:], bytes.Equal) {
			t.Errorf("Format behind %d: the halves are %x; were %x", n, now[2:], was[2:])
		}
		wantOpened(t, "formatted again", d, state{h: store.Header{Gen: 1}})
	}
}

// commands tells, for each n, which writes wait when n commands more of act were done and the power went; the last ones when all were done.
func commands(t *testing.T, begin func() *disk.Disk, act func(d *disk.Disk) api.Errno) (waiting [][]int) {
	t.Helper()
	for n := 0; ; n++ {
		d := begin()
		d.Arm(n)
		e := act(d)
		waiting = append(waiting, d.Waiting())
		if e == api.OK {
			return waiting
		}
		if e != api.ErrDown || n > 100 {
			t.Fatalf("behind %d commands: %d", n, e)
		}
	}
}

func wantCommands(t *testing.T, what string, got [][]int, want ...[]int) {
	t.Helper()
	if !slices.EqualFunc(got, want, slices.Equal) {
		t.Errorf("%s: waiting, command by command: %v; want %v", what, got, want)
	}
}

// opened tells what opens a disk and does act with its store.
func opened(act func(s *store.Store) api.Errno) func(d *disk.Disk) api.Errno {
	return func(d *disk.Disk) api.Errno {
		s, e := store.Open(d)
		if e != api.OK {
			return e
		}
		return act(s)
	}
}

// P14.2, P14.3: which writes and syncs there are, in their order.
func TestCommands(t *testing.T) {
	empty := func() *disk.Disk { return disk.New(sectors, size) }
	having := func(snap, log int) func() *disk.Disk {
		return func() *disk.Disk {
			d, s := fresh(t)
			mustCompact(t, s, run(1, snap))
			mustAppend(t, s, run(2, log))
			return d
		}
	}
	appending := func(n int) func(d *disk.Disk) api.Errno {
		return opened(func(s *store.Store) api.Errno { return s.Append(run(3, n)) })
	}
	compacting := func(n int) func(d *disk.Disk) api.Errno {
		return opened(func(s *store.Store) api.Errno { return s.Compact(run(3, n)) })
	}
	none := []int(nil)
	wantCommands(t, "Format", commands(t, empty, store.Format), []int{0}, []int{0}, none, []int{1}, []int{1}, none)
	formatted := func() *disk.Disk { d, _ := fresh(t); return d }
	wantCommands(t, "Append of 40", commands(t, formatted, appending(40)), []int{2}, []int{2, 3}, []int{2, 3}, []int{0}, []int{0}, none)
	wantCommands(t, "Append of nothing", commands(t, formatted, appending(0)), none, []int{0}, []int{0}, none)
	wantCommands(t, "Append of all", commands(t, formatted, appending(128)), []int{2}, []int{2, 3}, []int{2, 3, 4}, []int{2, 3, 4, 5}, []int{2, 3, 4, 5}, []int{0}, []int{0}, none)
	// The store is of generation 3, in the half 1, from here on.
	wantCommands(t, "Append behind 31", commands(t, having(20, 11), appending(1)), []int{6}, []int{6}, []int{0}, []int{0}, none)
	wantCommands(t, "Append behind 31 of two", commands(t, having(20, 11), appending(2)), []int{6}, []int{6, 7}, []int{6, 7}, []int{0}, []int{0}, none)
	wantCommands(t, "Append behind 32", commands(t, having(20, 12), appending(1)), []int{7}, []int{7}, []int{0}, []int{0}, none)
	wantCommands(t, "Append behind 33", commands(t, having(33, 0), appending(95)), []int{7}, []int{7, 8}, []int{7, 8, 9}, []int{7, 8, 9}, []int{0}, []int{0}, none)
	wantCommands(t, "Append behind 127", commands(t, having(0, 127), appending(1)), []int{9}, []int{9}, []int{0}, []int{0}, none)
	wantCommands(t, "Append of nothing behind 64", commands(t, having(32, 32), appending(0)), none, []int{0}, []int{0}, none)
	wantCommands(t, "Append of nothing behind 65", commands(t, having(32, 33), appending(0)), []int{8}, []int{8}, []int{0}, []int{0}, none)
	wantCommands(t, "Append of nothing behind 128", commands(t, having(64, 64), appending(0)), none, []int{0}, []int{0}, none)
	wantCommands(t, "Compact to 40", commands(t, having(20, 11), compacting(40)), []int{2}, []int{2, 3}, []int{2, 3}, []int{0}, []int{0}, none)
	wantCommands(t, "Compact to nothing", commands(t, having(20, 11), compacting(0)), none, []int{0}, []int{0}, none)
	wantCommands(t, "Compact to 64", commands(t, having(0, 0), compacting(64)), []int{2}, []int{2, 3}, []int{2, 3}, []int{0}, []int{0}, none)
	wantCommands(t, "Compact of the first", commands(t, formatted, compacting(33)), []int{6}, []int{6, 7}, []int{6, 7}, []int{0}, []int{0}, none)
}

// P14.3: the document's example, and what comes behind it, sector by sector.
func TestSectors(t *testing.T) {
	d, s := fresh(t)
	want := sectorsOf(disk.New(sectors, size))
	hold := func(what string) {
		t.Helper()
		if got := sectorsOf(d); !slices.EqualFunc(got, want, bytes.Equal) {
			t.Errorf("%s: sectors %x; want %x", what, got, want)
		}
	}
	whole := func(b []byte) []byte { return append(bytes.Clone(b), make([]byte, size-len(b))...) }
	want[1] = bytesOf(store.Header{Gen: 1}, size)
	hold("Format")

	b := run(1, 40)
	mustAppend(t, s, b)
	want[2], want[3] = b[:32], whole(b[32:])
	want[0] = bytesOf(store.Header{Gen: 2, Log: 40}, size)
	hold("Append of 40")

	mustAppend(t, s, []byte("xyz"))
	want[3] = whole(append(bytes.Clone(b[32:]), "xyz"...))
	want[1] = bytesOf(store.Header{Gen: 3, Log: 43}, size)
	hold("Append of 3")

	snap := run(50, 70)
	mustCompact(t, s, snap)
	want[6], want[7], want[8] = snap[:32], snap[32:64], whole(snap[64:])
	want[0] = bytesOf(store.Header{Gen: 4, Half: 1, Snap: 70}, size)
	hold("Compact to 70")

	more := run(200, 58)
	mustAppend(t, s, more)
	want[8], want[9] = append(bytes.Clone(snap[64:]), more[:26]...), more[26:]
	want[1] = bytesOf(store.Header{Gen: 5, Half: 1, Snap: 70, Log: 58}, size)
	hold("Append of all that has room")

	// What stood behind in a sector that is written anew goes; what stood in others stays.
	mustCompact(t, s, []byte("s"))
	want[2] = whole([]byte("s"))
	want[0] = bytesOf(store.Header{Gen: 6, Snap: 1}, size)
	hold("Compact to 1")

	mustCompact(t, s, nil)
	want[1] = bytesOf(store.Header{Gen: 7, Half: 1}, size)
	hold("Compact to nothing")

	mustAppend(t, s, []byte("l"))
	want[6] = whole([]byte("l"))
	want[0] = bytesOf(store.Header{Gen: 8, Half: 1, Log: 1}, size)
	hold("Append of 1")
	wantOpened(t, "at the end", d, state{h: store.Header{Gen: 8, Half: 1, Log: 1}, log: "l"})
}

// P14.2: the header of the greater generation holds, in whichever sector; what is none doesn't count.
func TestOpenNewest(t *testing.T) {
	a := store.Header{Gen: 4, Snap: 10, Log: 20}
	b := store.Header{Gen: 5, Half: 1, Snap: 64, Log: 64}
	whole := state{h: a, snap: string(run(1, 128)[:10]), log: string(run(1, 128)[10:30])}
	other := state{h: b, snap: string(run(101, 128)[:64]), log: string(run(101, 128)[64:])}
	for _, c := range []struct {
		what        string
		first, last []byte
		want        state
	}{
		{"the one in 1", bytesOf(a, size), bytesOf(b, size), other},
		{"the one in 0", bytesOf(b, size), bytesOf(a, size), other},
		{"that in 0 alone", bytesOf(a, size), nil, whole},
		{"that in 1 alone", nil, bytesOf(a, size), whole},
		{"one with a torn one behind", bytesOf(a, size), append(bytesOf(b, size)[:16], bytesOf(a, size)[16:]...), whole},
		{"one with a torn one ahead", append(bytesOf(b, size)[:16], bytesOf(a, size)[16:]...), bytesOf(a, size), whole},
		{"one beside one that has no room", bytesOf(a, size), bytesOf(store.Header{Gen: 5, Half: 1, Snap: 64, Log: 65}, size), whole},
		{"one beside the generation 0", bytesOf(a, size), bytesOf(store.Header{Half: 1, Snap: 64, Log: 64}, size), whole},
		{"one beside one of another size", bytesOf(a, size), wantHeader(5, 1, 0, 0, 31), whole},
	} {
		d := disk.New(sectors, size)
		lay(t, d, 0, c.first)
		lay(t, d, 1, c.last)
		for i := range 4 {
			lay(t, d, 2+i, run(1, 128)[32*i:][:32])
			lay(t, d, 6+i, run(101, 128)[32*i:][:32])
		}
		wantOpened(t, c.what, d, c.want)
	}
}

// P14.2: no header in either sector.
func TestOpenBad(t *testing.T) {
	right := bytesOf(store.Header{Gen: 4, Snap: 1}, size)
	for _, c := range [][2][]byte{
		{nil, nil}, {right[:31], right[:20]}, {bytesOf(store.Header{}, size), nil}, {nil, bytesOf(store.Header{Gen: 1, Snap: 129}, size)},
		{bytes.Repeat([]byte{0xff}, size), bytes.Repeat([]byte{1}, size)},
	} {
		d := disk.New(sectors, size)
		lay(t, d, 0, c[0])
		lay(t, d, 1, c[1])
		lay(t, d, 2, right)
		if s, e := store.Open(d); s != nil || e != api.ErrBad {
			t.Errorf("Open of %x: %v, %d", c, s, e)
		}
	}
}

// P14.2: layer 12's error.
func TestDown(t *testing.T) {
	d, s := fresh(t)
	mustAppend(t, s, []byte("abc"))
	down(d)
	done := d.Done()
	was := d.Image()
	if o, e := store.Open(d); o != nil || e != api.ErrDown {
		t.Errorf("Open: %v, %d", o, e)
	}
	if e := store.Format(d); e != api.ErrDown {
		t.Errorf("Format: %d", e)
	}
	if e := s.Append([]byte("d")); e != api.ErrDown {
		t.Errorf("Append: %d", e)
	}
	if d.Done() != done || !bytes.Equal(d.Image(), was) {
		t.Errorf("%d commands of a disk that is down", d.Done()-done)
	}
	if o, e := store.Open(down(disk.New(sectors, size))); o != nil || e != api.ErrDown {
		t.Errorf("Open of one that was not formatted: %v, %d", o, e)
	}
}

// P14.3: what has no room is refused, and changes nothing; what just has it is not.
func TestFull(t *testing.T) {
	for used := 0; used <= capacity; used++ {
		for _, snap := range []int{0, used / 3, used} {
			d, s := fresh(t)
			mustCompact(t, s, run(1, snap))
			mustAppend(t, s, run(7, used-snap))
			room := capacity - used
			was, done, image := stateOf(s), d.Done(), d.Image()
			for _, n := range []int{room + 1, room + 2, capacity + 1, 1000} {
				if e := s.Append(make([]byte, n)); e != api.ErrFull {
					t.Errorf("Append of %d to %d: %d", n, used, e)
				}
			}
			for _, n := range []int{capacity + 1, capacity + 2, 1000} {
				if e := s.Compact(make([]byte, n)); e != api.ErrFull {
					t.Errorf("Compact to %d: %d", n, e)
				}
			}
			wantState(t, "refused", s, was)
			if d.Done() != done || !bytes.Equal(d.Image(), image) {
				t.Errorf("%d commands of what was refused", d.Done()-done)
			}
			mustAppend(t, s, run(50, room))
			want := was
			want.h.Gen, want.h.Log, want.log = was.h.Gen+1, was.h.Log+room, was.log+string(run(50, room))
			wantState(t, "full", s, want)
			wantOpened(t, "full", d, want)
			mustAppend(t, s, nil)
			mustCompact(t, s, run(60, capacity))
			wantOpened(t, "full snapshot", d, state{h: store.Header{Gen: want.h.Gen + 2, Snap: capacity}, snap: string(run(60, capacity))})
			if e := s.Append([]byte{1}); e != api.ErrFull {
				t.Errorf("Append to a full snapshot: %d", e)
			}
		}
	}
}

// P14.3: behind layer 12's error a store tells what it told, and refuses, also when the power is back.
func TestFailed(t *testing.T) {
	for n := range 5 {
		for _, act := range []func(s *store.Store) api.Errno{
			func(s *store.Store) api.Errno { return s.Append(run(9, 60)) },
			func(s *store.Store) api.Errno { return s.Compact(run(9, 60)) },
		} {
			d, s := fresh(t)
			mustCompact(t, s, []byte("snap"))
			mustAppend(t, s, []byte("log"))
			was := stateOf(s)
			d.Arm(n)
			if e := act(s); e != api.ErrDown {
				t.Fatalf("behind %d commands: %d", n, e)
			}
			wantState(t, "failed", s, was)
			d.Crash([]bool{true, true, true}, never, 0)
			image, done := d.Image(), d.Done()
			for range 2 {
				if e := s.Append(nil); e != api.ErrDown {
					t.Errorf("Append behind a failure: %d", e)
				}
				if e := s.Append([]byte("x")); e != api.ErrDown {
					t.Errorf("Append of one behind a failure: %d", e)
				}
				if e := s.Compact(nil); e != api.ErrDown {
					t.Errorf("Compact behind a failure: %d", e)
				}
				// What has no room is told first.
				if e := s.Append(make([]byte, s.Room()+1)); e != api.ErrFull {
					t.Errorf("Append of too many behind a failure: %d", e)
				}
				if e := s.Compact(make([]byte, capacity+1)); e != api.ErrFull {
					t.Errorf("Compact to too many behind a failure: %d", e)
				}
			}
			wantState(t, "refused", s, was)
			if !bytes.Equal(d.Image(), image) || d.Done() != done {
				t.Errorf("%d commands behind a failure", d.Done()-done)
			}
		}
	}
}

// P14.3: one that refuses is still told what it had, while another one of the same disk goes on.
func TestOpenedBehindFailure(t *testing.T) {
	d, s := fresh(t)
	mustAppend(t, s, []byte("a"))
	d.Arm(1)
	s.Append([]byte("b"))
	d.Crash(nil, never, 0)
	o := mustOpen(t, d)
	mustAppend(t, o, []byte("c"))
	wantState(t, "the failed one", s, state{h: store.Header{Gen: 2, Log: 1}, log: "a"})
	wantOpened(t, "the other one", d, state{h: store.Header{Gen: 3, Log: 2}, log: "ac"})
}

// P14.3: the greatest generation comes; behind it none has bytes, which layer 12 refuses.
func TestGenerations(t *testing.T) {
	for _, act := range []func(s *store.Store) api.Errno{
		func(s *store.Store) api.Errno { return s.Append([]byte("x")) },
		func(s *store.Store) api.Errno { return s.Compact([]byte("x")) },
	} {
		d := disk.New(sectors, size)
		lay(t, d, 0, bytesOf(store.Header{Gen: most - 1, Log: 2}, size))
		lay(t, d, 2, []byte("lo"))
		s := mustOpen(t, d)
		mustAppend(t, s, []byte("g"))
		want := state{h: store.Header{Gen: most, Log: 3}, log: "log"}
		wantState(t, "the greatest", s, want)
		wantOpened(t, "the greatest", d, want)
		if e := act(s); e != api.ErrSize {
			t.Errorf("behind the greatest: %d", e)
		}
		if e := act(s); e != api.ErrDown {
			t.Errorf("behind the failure: %d", e)
		}
		wantState(t, "behind the greatest", s, want)
		wantOpened(t, "behind the greatest", d, want)
	}
}

// model is a disk with a store, by the document's words.
type model struct {
	sectors, size int
	image         []byte
	now           state
	done          int
}

func newModel(sectors, size int) *model {
	m := &model{sectors: sectors, size: size, image: make([]byte, sectors*size), now: state{h: store.Header{Gen: 1}}, done: 5}
	copy(m.image[size:], bytesOf(m.now.h, size))
	return m
}

func (m *model) capacity() int { return (m.sectors - 2) / 2 * m.size }

// save lays the bytes from the place from on, and the header.
func (m *model) save(next state, from int) {
	all := next.snap + next.log
	start := 2
	if next.h.Half == 1 {
		start += (m.sectors - 2) / 2
	}
	for i := from / m.size; i*m.size < len(all); i++ {
		sector := make([]byte, m.size)
		copy(sector, all[i*m.size:])
		copy(m.image[(start+i)*m.size:], sector)
		m.done++
	}
	next.h.Gen = m.now.h.Gen + 1
	next.h.Snap, next.h.Log = len(next.snap), len(next.log)
	at := 0
	if next.h.Gen%2 == 1 {
		at = m.size
	}
	copy(m.image[at:], bytesOf(next.h, m.size))
	m.done += 3
	m.now = next
}

func (m *model) add(b []byte) api.Errno {
	used := len(m.now.snap) + len(m.now.log)
	if len(b) > m.capacity()-used {
		return api.ErrFull
	}
	next := m.now
	next.log += string(b)
	m.save(next, used)
	return api.OK
}

func (m *model) compact(b []byte) api.Errno {
	if len(b) > m.capacity() {
		return api.ErrFull
	}
	m.save(state{h: store.Header{Half: 1 - m.now.h.Half}, snap: string(b)}, 0)
	return api.OK
}

// P14.2, P14.3: long sequences of calls, held against the document's words, byte by byte of the disk.
func TestByModel(t *testing.T) {
	step := stepper()
	for round := range 200 {
		sectors, size := 4+step(12), 32+step(20)
		d := disk.New(sectors, size)
		mustFormat(t, d)
		m := newModel(sectors, size)
		s := mustOpen(t, d)
		for n := range 60 {
			what := fmt.Sprintf("round %d, %d of %d sectors of %d", round, n, sectors, size)
			b := some(step, step(1+step(m.capacity()+3)))
			var e, want api.Errno
			switch step(5) {
			case 0:
				e, want = s.Compact(b), m.compact(b)
			case 1:
				s = mustOpen(t, d)
			default:
				e, want = s.Append(b), m.add(b)
			}
			if e != want {
				t.Fatalf("%s: %d; want %d", what, e, want)
			}
			wantState(t, what, s, m.now)
			if !bytes.Equal(d.Image(), m.image) || d.Done() != m.done || len(d.Waiting()) != 0 {
				t.Fatalf("%s: the disk has %x; want %x; %d commands; want %d", what, d.Image(), m.image, d.Done(), m.done)
			}
		}
	}
}

// call is one of a store.
type call struct {
	compact bool
	b       []byte
}

func (c call) do(s *store.Store) api.Errno {
	if c.compact {
		return s.Compact(c.b)
	}
	return s.Append(c.b)
}

// after tells what c makes of a store that has was, if it has room.
func (c call) after(was state) state {
	if c.compact {
		return state{h: store.Header{Gen: was.h.Gen + 1, Half: 1 - was.h.Half, Snap: len(c.b)}, snap: string(c.b)}
	}
	was.h.Gen++
	was.h.Log += len(c.b)
	was.log += string(c.b)
	return was
}

// calls are of many lengths; together they use both halves, and both of a half's sectors anew.
func calls() []call {
	return []call{{false, run(1, 40)}, {false, run(2, 20)}, {true, run(3, 70)}, {false, run(4, 58)}, {true, run(5, 33)}, {false, nil}, {false, run(6, 95)}, {true, nil}, {false, run(7, 1)}, {true, run(8, 128)}}
}

// begun tells a disk whose store is empty, of the generation gen.
func begun(t *testing.T, gen int) *disk.Disk {
	t.Helper()
	d := disk.New(sectors, size)
	mustFormat(t, d)
	lay(t, d, 1-gen%2, nil)
	lay(t, d, gen%2, bytesOf(store.Header{Gen: gen}, size))
	return d
}

// met does calls with d's store, till the power ends; it tells what the last one that was OK left, and what the one that met the end would have.
func met(t *testing.T, d *disk.Disk, l []call) (left, would state, over bool) {
	t.Helper()
	s := mustOpen(t, d)
	left = stateOf(s)
	for _, c := range l {
		would = c.after(left)
		if e := c.do(s); e == api.ErrDown {
			return left, would, true
		} else if e != api.OK {
			t.Fatalf("call: %d", e)
		}
		left = would
	}
	return left, left, false
}

// cuts are where a write may be torn: anywhere.
func cuts() []int {
	l := []int{-1, 1000}
	for i := range size + 1 {
		l = append(l, i)
	}
	return l
}

// keeps tells the list of bools whose bits are those of mask.
func keeps(mask, n int) []bool {
	var l []bool
	for i := range n {
		l = append(l, mask>>i&1 == 1)
	}
	return l
}

// P14.4: the power ends at each command, each of the waiting writes is kept or not, and each torn.
func TestCrash(t *testing.T) {
	for _, gen := range []int{1, 254, 255, 256, 65534, 1<<32 - 3, 1<<40 - 2} {
		for n := 0; ; n++ {
			d := begun(t, gen)
			d.Arm(n)
			left, would, over := met(t, d, calls())
			if !over {
				wantOpened(t, "without a crash", d, left)
				break
			}
			holdCrashes(t, gen, n, len(d.Waiting()), left, would)
		}
	}
}

// holdCrashes goes through all crashes behind n commands of the calls, when so many writes wait.
func holdCrashes(t *testing.T, gen, n, waiting int, left, would state) {
	t.Helper()
	for mask := range 1 << waiting {
		for torn := never; torn < waiting; torn++ {
			at := cuts()
			if torn == never {
				at = []int{0}
			}
			for _, cut := range at {
				d := begun(t, gen)
				d.Arm(n)
				met(t, d, calls())
				d.Crash(keeps(mask, waiting), torn, cut)
				what := fmt.Sprintf("generation %d, %d commands, keep %b, torn %d at %d", gen, n, mask, torn, cut)
				holdBehindCrash(t, what, d, left, would)
			}
		}
	}
}

// holdBehindCrash holds that d has one of two stores, and that it goes on from there.
func holdBehindCrash(t *testing.T, what string, d *disk.Disk, left, would state) {
	t.Helper()
	s := mustOpen(t, d)
	got := stateOf(s)
	if got != left && got != would {
		t.Fatalf("%s: the store has %v; want %v or %v", what, got, left, would)
	}
	next := call{compact: true, b: run(77, 50)}
	for range 2 {
		if e := next.do(s); e != api.OK {
			t.Fatalf("%s: went on: %d", what, e)
		}
		got = next.after(got)
		wantOpened(t, what, d, got)
		next = call{b: run(88, 60)}
	}
}

// P14.4: what was OK is synced: no crash behind it takes it back.
func TestCrashBehindAll(t *testing.T) {
	for n := range calls() {
		d := begun(t, 1)
		left, _, _ := met(t, d, calls()[:n+1])
		d.Crash(nil, never, 0)
		wantOpened(t, fmt.Sprintf("behind %d calls", n+1), d, left)
	}
}

// P14.4: a store that has its own calls go on behind a crash that met none of them.
func TestCrashBetween(t *testing.T) {
	d, s := fresh(t)
	want := stateOf(s)
	for _, c := range calls() {
		if e := c.do(s); e != api.OK {
			t.Fatalf("call: %d", e)
		}
		want = c.after(want)
		d.Crash(nil, never, 0)
		wantState(t, "between", s, want)
		wantOpened(t, "between", d, want)
	}
}

// P14.4: crash behind crash, on disks of many sizes.
func TestManyCrashes(t *testing.T) {
	step := stepper()
	for round := range 300 {
		d := disk.New(4+step(12), 32+step(20))
		mustFormat(t, d)
		s := mustOpen(t, d)
		now := stateOf(s)
		for n := range 60 {
			c := call{compact: step(4) == 0}
			if c.compact {
				c.b = some(step, step(s.Capacity()+1))
			} else {
				c.b = some(step, step(s.Room()+1))
			}
			d.Arm(step(12))
			would := c.after(now)
			e := c.do(s)
			if e == api.OK {
				now = would
				continue
			}
			waiting := len(d.Waiting())
			d.Crash(keeps(step(1<<waiting), waiting), step(waiting+1)-1, step(d.Size()+1))
			s = mustOpen(t, d)
			if got := stateOf(s); e != api.ErrDown || got != now && got != would {
				t.Fatalf("round %d, %d: %d: the store has %v; want %v or %v", round, n, e, got, now, would)
			}
			now = stateOf(s)
		}
	}
}

// P14.4: a disk that is formatted for the first time has no store, or an empty one.
func TestCrashOfFormat(t *testing.T) {
	for n := range 6 {
		for keep := range 2 {
			for torn := never; torn < 1; torn++ {
				for cut := 0; cut <= size; cut++ {
					d := disk.New(sectors, size)
					d.Arm(n)
					formatted := store.Format(d)
					if formatted != api.OK && formatted != api.ErrDown {
						t.Fatalf("Format behind %d: %d", n, formatted)
					}
					d.Crash(keeps(keep, 1), torn, cut)
					s, e := store.Open(d)
					if formatted == api.OK && e != api.OK || n < 3 && e != api.ErrBad {
						t.Errorf("Open behind %d of Format: %d", n, e)
					}
					if e == api.OK {
						wantState(t, "formatted", s, state{h: store.Header{Gen: 1}})
					} else if e != api.ErrBad || s != nil {
						t.Errorf("Open behind %d of Format: %v, %d", n, s, e)
					}
				}
			}
		}
	}
}

// P14.5: Open reads no sector twice, none of the half that is not used, and writes nothing.
func TestReads(t *testing.T) {
	for used := 0; used <= capacity; used++ {
		for half := range 2 {
			d, s := fresh(t)
			if half == 1 {
				mustCompact(t, s, nil)
			}
			mustAppend(t, s, run(1, used))
			d.Crash(nil, never, 0)
			done := d.Done()
			mustOpen(t, d)
			for i := range sectors {
				if n := d.Reads(i); n > 1 {
					t.Errorf("%d bytes in the half %d: sector %d read %d times", used, half, i, n)
				}
			}
			if d.Done() != done || len(d.Waiting()) != 0 {
				t.Errorf("Open: %d commands", d.Done()-done)
			}
			if other := 2 + 4*(1-half); d.Reads(other) != 0 {
				t.Errorf("the other half was read")
			}
		}
	}
}

// full tells b with spare room that is full of c.
func full(b []byte, c byte) []byte {
	all := append(bytes.Clone(b), bytes.Repeat([]byte{c}, 32)...)
	return all[:len(b)]
}

// spoil changes b and its spare room; what is spoilt twice, as two have it, is not as it was either.
func spoil(b []byte) {
	b = b[:cap(b)]
	for i := range b {
		b[i] += 0x5b
	}
}

// wantUntouched holds that b and its spare room are as full made them.
func wantUntouched(t *testing.T, what string, b, was []byte, c byte) {
	t.Helper()
	if !bytes.Equal(b, was) || !bytes.Equal(b[len(b):len(b)+32], bytes.Repeat([]byte{c}, 32)) {
		t.Errorf("%s: what was handed in is %x now", what, b[:len(b)+32])
	}
}

// P14.5: what is handed to a store is neither changed nor kept.
func TestHandedIn(t *testing.T) {
	for n := 0; n <= 62; n++ {
		d, s := fresh(t)
		want := stateOf(s)
		for _, c := range []call{{compact: true, b: run(1, n)}, {b: run(2, n/2)}, {b: run(3, n/2)}} {
			b := full(c.b, 0xcc)
			if e := (call{compact: c.compact, b: b}).do(s); e != api.OK {
				t.Fatalf("call: %d", e)
			}
			wantUntouched(t, "call", b, c.b, 0xcc)
			spoil(b)
			want = c.after(want)
			wantState(t, "spoilt", s, want)
			wantOpened(t, "spoilt", d, want)
		}
		// What the next one writes again of a sector must be what was handed in then, too.
		c := call{b: []byte("x")}
		if e := c.do(s); e != api.OK {
			t.Fatalf("Append: %d", e)
		}
		wantOpened(t, "spoilt and written again", d, c.after(want))
	}
}

// P14.5: what was refused is neither changed nor kept.
func TestRefusedHandedIn(t *testing.T) {
	_, s := fresh(t)
	for _, compact := range []bool{false, true} {
		b := full(run(1, 129), 0xcc)
		if e := (call{compact: compact, b: b}).do(s); e != api.ErrFull {
			t.Errorf("call: %d", e)
		}
		wantUntouched(t, "refused", b, run(1, 129), 0xcc)
	}
}

// P14.5: what a store tells is new memory, its spare room too.
func TestTold(t *testing.T) {
	d, s := fresh(t)
	mustCompact(t, s, run(1, 21))
	mustAppend(t, s, run(2, 22))
	o := mustOpen(t, d)
	want := stateOf(s)
	for _, x := range []*store.Store{s, o} {
		snap, log := x.Snapshot(), x.Log()
		spoil(snap)
		if !bytes.Equal(log, run(2, 22)) {
			t.Errorf("a spoilt snapshot changed the log: %x", log)
		}
		spoil(log)
		spoil(x.Snapshot())
		spoil(x.Log())
		wantState(t, "spoilt", s, want)
		wantState(t, "spoilt", o, want)
		wantOpened(t, "spoilt", d, want)
	}

	c := call{b: run(5, 60)}
	snap, log := s.Snapshot(), s.Log()
	if e := c.do(s); e != api.OK {
		t.Fatalf("Append: %d", e)
	}
	want = c.after(want)
	spoil(s.Log())
	wantOpened(t, "appended", d, want)
	mustCompact(t, s, run(9, 128))
	if !bytes.Equal(snap, run(1, 21)) || !bytes.Equal(log, run(2, 22)) {
		t.Errorf("told ahead: %x, %x now", snap, log)
	}
}

// P14.5: a store that was opened once more, and one that goes on, share nothing.
func TestTwoStores(t *testing.T) {
	d, s := fresh(t)
	mustAppend(t, s, run(1, 20))
	o := mustOpen(t, d)
	was := stateOf(o)
	mustAppend(t, s, run(2, 5))
	mustCompact(t, s, run(3, 30))
	wantState(t, "the other one", o, was)
}

// P14.5: headers in bytes.
func TestMemoryOfHeaders(t *testing.T) {
	h := store.Header{Gen: 258, Half: 1, Snap: 3, Log: 5}
	b := store.Encode(h, size)
	spoil(store.Encode(h, size))
	if !bytes.Equal(b, bytesOf(h, size)) {
		t.Errorf("Encode: %x", b)
	}
	in := full(b, 0xcc)
	if got, ok := store.Decode(in, 8); got != h || !ok {
		t.Errorf("Decode: %v", got)
	}
	wantUntouched(t, "Decode", in, bytesOf(h, size), 0xcc)
}

// P14.3: the greatest disk, filled up bit by bit.
func TestGreatest(t *testing.T) {
	d := disk.New(4096, 512)
	mustFormat(t, d)
	s := mustOpen(t, d)
	mustCompact(t, s, run(1, 2000))
	want := stateOf(s)
	for s.Room() > 0 {
		c := call{b: run(byte(s.Used()), min(s.Room(), 4321))}
		if e := c.do(s); e != api.OK {
			t.Fatalf("Append at %d: %d", s.Used(), e)
		}
		want = c.after(want)
	}
	wantState(t, "full", s, want)
	wantOpened(t, "full", d, want)
	if e := s.Append([]byte{1}); e != api.ErrFull || s.Used() != 2047*512 {
		t.Errorf("Append: %d, %d used", e, s.Used())
	}
}

// P1: no call panics, whatever it is given.
func TestWild(t *testing.T) {
	wild := []int{least, least + 1, -1 << 32, -513, -1, 0, 1, 2, 8, 31, 32, 33, 255, 256, 512, 1 << 31, 1<<31 + 1, 1 << 32, 1 << 62, most - 1, most}
	for _, i := range wild {
		for _, n := range wild {
			for _, h := range []store.Header{{}, {Gen: i, Half: 1, Snap: 2, Log: 3}, {Gen: 1, Half: i}, {Gen: 1, Snap: i}, {Gen: 1, Log: i}, {Gen: i, Half: i, Snap: i, Log: i}} {
				b := store.Encode(h, n)
				store.Decode(b, i)
				store.Decode(b, n)
			}
		}
		for n := range 40 {
			store.Decode(make([]byte, n), i)
			store.Decode(bytes.Repeat([]byte{0xff}, n), i)
		}
	}
}
