package disk_test

import (
	"bytes"
	"math"
	"slices"
	"testing"

	"limner/api"
	"limner/disk"
)

const (
	least, most = math.MinInt, math.MaxInt

	// never is what no write's number is.
	never = -1
)

// wildInts are ints at the ends of what calls are promised something of, and far beyond.
func wildInts() []int {
	return []int{least, least + 1, -1 << 62, -1 << 32, -513, -17, -2, -1, 0, 1, 2, 3, 4, 5, 15, 16, 17, 31, 255, 256, 511, 512, 513, 4095, 4096, 4097,
		1 << 31, 1 << 32, 1<<32 + 1, 1 << 60, 1 << 62, most - 1, most}
}

// stepper tells numbers that look like chance, the same in every run: from 0 up to n - 1.
func stepper() func(n int) int {
	state := uint64(0x9e3779b97f4a7c15)
	return func(n int) int {
		state ^= state << 13
		state ^= state >> 7
		state ^= state << 17
		return int((state >> 33) % uint64(n))
	}
}

// fill tells the bytes of a sector that are all c.
func fill(size int, c byte) []byte { return bytes.Repeat([]byte{c}, size) }

// size is how many bytes the sectors of most of the tests have.
const size = 16

func ones() []byte { return fill(size, 1) }

// parts tells bytes that are so many of one number, and so many of the next one: n, c, n, c ..
func parts(l ...int) []byte {
	var b []byte
	for i := 0; i < len(l); i += 2 {
		b = append(b, fill(l[i], byte(l[i+1]))...)
	}
	return b
}

func mustWrite(t *testing.T, d *disk.Disk, i int, b []byte) {
	t.Helper()
	if e := d.Write(i, b); e != api.OK {
		t.Fatalf("Write(%d): %d", i, e)
	}
}

func mustSync(t *testing.T, d *disk.Disk) {
	t.Helper()
	if e := d.Sync(); e != api.OK {
		t.Fatalf("Sync: %d", e)
	}
}

func wantRead(t *testing.T, what string, d *disk.Disk, i int, want []byte, wantE api.Errno) {
	t.Helper()
	if b, e := d.Read(i); !bytes.Equal(b, want) || e != wantE {
		t.Errorf("%s: Read(%d): %v, %d; want %v, %d", what, i, b, e, want, wantE)
	}
}

func wantImage(t *testing.T, what string, d *disk.Disk, sectors ...[]byte) {
	t.Helper()
	if got, want := d.Image(), bytes.Join(sectors, nil); !bytes.Equal(got, want) {
		t.Errorf("%s: Image: %v; want %v", what, got, want)
	}
}

func wantWaiting(t *testing.T, what string, d *disk.Disk, want ...int) {
	t.Helper()
	if got := d.Waiting(); !slices.Equal(got, want) {
		t.Errorf("%s: Waiting: %v; want %v", what, got, want)
	}
}

func wantState(t *testing.T, what string, d *disk.Disk, done int, down bool) {
	t.Helper()
	if d.Done() != done || d.Down() != down {
		t.Errorf("%s: Done %d, Down %t; want %d, %t", what, d.Done(), d.Down(), done, down)
	}
}

// P12.1: New tells a disk just of the sizes that there are.
func TestNew(t *testing.T) {
	for _, sectors := range wildInts() {
		for _, size := range wildInts() {
			d := disk.New(sectors, size)
			right := sectors >= 1 && sectors <= 4096 && size >= 16 && size <= 512
			if (d != nil) != right {
				t.Fatalf("New(%d, %d): %v", sectors, size, d)
			}
			if !right {
				continue
			}
			if d.Sectors() != sectors || d.Size() != size || !bytes.Equal(d.Image(), make([]byte, sectors*size)) {
				t.Errorf("New(%d, %d): %d sectors of %d, or no noughts", sectors, size, d.Sectors(), d.Size())
			}
			wantWaiting(t, "new", d)
			wantState(t, "new", d, 0, false)
			wantRead(t, "new", d, sectors-1, make([]byte, size), api.OK)
		}
	}
}

// P12.1: Write tells the first error that applies, and what is refused changes nothing.
func TestWriteRefused(t *testing.T) {
	for _, sectors := range []int{1, 3, 4096} {
		d := disk.New(sectors, size)
		mustWrite(t, d, sectors-1, ones())
		for _, i := range wildInts() {
			for _, n := range []int{0, 1, 15, 16, 17, 32, 512, sectors * size} {
				want := api.OK
				if i < 0 || i >= sectors {
					want = api.ErrRange
				} else if n != size {
					want = api.ErrSize
				}
				if want == api.OK {
					continue
				}
				if e := d.Write(i, fill(n, 9)); e != want {
					t.Errorf("Write(%d, %d bytes) of %d: %d; want %d", i, n, sectors, e, want)
				}
			}
		}
		wantWaiting(t, "refused", d, sectors-1)
		wantState(t, "refused", d, 1, false)
		wantImage(t, "refused", d, make([]byte, (sectors-1)*size), ones())
	}
	if e := disk.New(2, size).Write(0, nil); e != api.ErrSize {
		t.Errorf("Write(0, nil): %d", e)
	}
	if e := disk.New(2, size).Write(2, nil); e != api.ErrRange {
		t.Errorf("Write(2, nil): %d", e)
	}
}

// P12.1: a sector reads as what was written last, whether it is waiting or not, and no other one does.
func TestRead(t *testing.T) {
	d := disk.New(3, size)
	mustWrite(t, d, 1, ones())
	wantRead(t, "one write", d, 1, ones(), api.OK)
	mustWrite(t, d, 1, fill(size, 2))
	mustWrite(t, d, 2, fill(size, 3))
	wantRead(t, "two writes", d, 1, fill(size, 2), api.OK)
	wantRead(t, "two writes", d, 0, fill(size, 0), api.OK)
	mustSync(t, d)
	wantRead(t, "synced", d, 1, fill(size, 2), api.OK)
	wantRead(t, "synced", d, 2, fill(size, 3), api.OK)
	mustWrite(t, d, 2, parts(7, 4, 9, 5))
	wantRead(t, "written anew", d, 2, parts(7, 4, 9, 5), api.OK)
	wantRead(t, "written anew", d, 1, fill(size, 2), api.OK)
	for _, i := range wildInts() {
		if i < 0 || i > 2 {
			wantRead(t, "no sector", d, i, nil, api.ErrRange)
		}
	}
	wantImage(t, "at the end", d, fill(size, 0), fill(size, 2), parts(7, 4, 9, 5))
}

// P12.1: behind Sync no write is waiting, and no crash takes anything back.
func TestSync(t *testing.T) {
	d := disk.New(2, size)
	mustSync(t, d)
	wantState(t, "nothing was written", d, 1, false)
	mustWrite(t, d, 0, ones())
	mustWrite(t, d, 0, fill(size, 2))
	mustWrite(t, d, 1, fill(size, 3))
	mustSync(t, d)
	wantWaiting(t, "synced", d)
	wantState(t, "synced", d, 5, false)
	d.Crash(nil, 0, 5)
	wantImage(t, "crashed", d, fill(size, 2), fill(size, 3))
	mustSync(t, d)
	wantImage(t, "synced behind a crash", d, fill(size, 2), fill(size, 3))
}

// P12.2: Waiting has a sector as often as writes to it are waiting, in their order.
func TestWaiting(t *testing.T) {
	d := disk.New(4, size)
	for _, i := range []int{3, 0, 3, 3, 1} {
		mustWrite(t, d, i, ones())
	}
	wantWaiting(t, "written", d, 3, 0, 3, 3, 1)
	mustSync(t, d)
	wantWaiting(t, "synced", d)
	mustWrite(t, d, 2, ones())
	wantWaiting(t, "written anew", d, 2)
	d.Crash([]bool{true}, never, 0)
	wantWaiting(t, "crashed", d)
}

// P12.2: Reads counts what Read told, sector by sector, from a crash on; a refused one counts nowhere, nor do Image and Write.
func TestReads(t *testing.T) {
	d := disk.New(3, size)
	for _, i := range []int{0, 2, 2, 3, -1, 2, most, least} {
		d.Read(i)
	}
	mustWrite(t, d, 1, ones())
	mustSync(t, d)
	d.Image()
	d.Arm(0)
	d.Sync()
	d.Read(0)
	for i, want := range []int{1, 0, 3} {
		if got := d.Reads(i); got != want {
			t.Errorf("Reads(%d): %d; want %d", i, got, want)
		}
	}
	for _, i := range wildInts() {
		if (i < 0 || i > 2) && d.Reads(i) != 0 {
			t.Errorf("Reads(%d): %d", i, d.Reads(i))
		}
	}
	d.Crash(nil, never, 0)
	for i := range 3 {
		if d.Reads(i) != 0 {
			t.Errorf("Reads(%d) behind a crash: %d", i, d.Reads(i))
		}
	}
	d.Read(2)
	if d.Reads(2) != 1 || d.Reads(0) != 0 {
		t.Errorf("Reads: %d of 2, %d of 0", d.Reads(2), d.Reads(0))
	}
}

// P12.2: Done counts writes and syncs that were done, through crashes too, and nothing else.
func TestDone(t *testing.T) {
	d := disk.New(2, size)
	mustWrite(t, d, 0, ones())
	mustSync(t, d)
	d.Read(0)
	d.Write(2, ones())
	d.Write(0, nil)
	d.Image()
	wantState(t, "two commands", d, 2, false)
	d.Arm(1)
	mustWrite(t, d, 1, ones())
	d.Write(1, ones())
	d.Write(1, ones())
	d.Sync()
	wantState(t, "down", d, 3, true)
	d.Crash(nil, never, 0)
	wantState(t, "behind a crash", d, 3, false)
	mustSync(t, d)
	wantState(t, "one more", d, 4, false)
}

// P12.1, P12.2: of a disk that is down each call that tells an error tells ErrDown, ahead of all others; Image and Waiting tell what they told.
func TestDown(t *testing.T) {
	d := disk.New(2, size)
	mustWrite(t, d, 0, ones())
	d.Arm(0)
	if e := d.Write(1, fill(size, 2)); e != api.ErrDown {
		t.Errorf("Write: %d", e)
	}
	for _, i := range []int{0, 1, 2, -1, least, most} {
		for _, n := range []int{0, 15, 16, 17} {
			if e := d.Write(i, fill(n, 3)); e != api.ErrDown {
				t.Errorf("Write(%d, %d bytes): %d", i, n, e)
			}
		}
		wantRead(t, "down", d, i, nil, api.ErrDown)
	}
	if e := d.Sync(); e != api.ErrDown {
		t.Errorf("Sync: %d", e)
	}
	wantWaiting(t, "down", d, 0, 1)
	wantImage(t, "down", d, ones(), fill(size, 2))
	wantState(t, "down", d, 1, true)
	if d.Sectors() != 2 || d.Size() != size || d.Reads(0) != 0 || d.Reads(1) != 0 {
		t.Errorf("down: %d sectors of %d, read %d and %d", d.Sectors(), d.Size(), d.Reads(0), d.Reads(1))
	}
	for _, n := range []int{5, 0, -1, least} {
		d.Arm(n)
		wantState(t, "armed again", d, 1, true)
		wantRead(t, "armed again", d, 0, nil, api.ErrDown)
	}
	d.Crash([]bool{true, true}, never, 0)
	wantRead(t, "up again", d, 1, fill(size, 2), api.OK)
	wantState(t, "up again", d, 1, false)
}

// P12.3: an armed disk does so many commands more; what is refused, and what is no command, doesn't count.
func TestArm(t *testing.T) {
	for n := range 6 {
		d := disk.New(2, size)
		mustWrite(t, d, 1, ones())
		mustSync(t, d)
		d.Arm(n)
		for k := range n {
			d.Write(2, ones())
			d.Write(0, ones()[1:])
			d.Read(0)
			d.Read(9)
			d.Image()
			if k%2 == 1 {
				mustSync(t, d)
			} else {
				mustWrite(t, d, 0, fill(size, byte(k+2)))
			}
			wantState(t, "armed", d, k+3, false)
		}
		if e := d.Write(2, ones()); e != api.ErrRange {
			t.Errorf("Write to no sector, armed with none: %d", e)
		}
		if e := d.Write(0, nil); e != api.ErrSize {
			t.Errorf("Write of nothing, armed with none: %d", e)
		}
		wantRead(t, "armed with none", d, 1, ones(), api.OK)
		wantState(t, "armed with none", d, n+2, false)
		if e := d.Sync(); e != api.ErrDown {
			t.Errorf("Sync, armed with none: %d", e)
		}
		wantState(t, "armed with none", d, n+2, true)
	}
}

// P12.3: when the power goes, a Write is waiting; a Sync leaves all that is waiting.
func TestArmedCommand(t *testing.T) {
	for _, keep := range []bool{false, true} {
		d := disk.New(2, size)
		mustWrite(t, d, 0, ones())
		d.Arm(0)
		if e := d.Write(0, fill(size, 2)); e != api.ErrDown {
			t.Errorf("Write: %d", e)
		}
		wantWaiting(t, "a write", d, 0, 0)
		d.Crash([]bool{true, keep}, never, 0)
		if keep {
			wantImage(t, "a write is kept", d, fill(size, 2), fill(size, 0))
		} else {
			wantImage(t, "a write is lost", d, ones(), fill(size, 0))
		}
		mustWrite(t, d, 1, fill(size, 7))
		d.Arm(0)
		if e := d.Sync(); e != api.ErrDown {
			t.Errorf("Sync: %d", e)
		}
		wantWaiting(t, "a sync", d, 1)
		d.Crash([]bool{keep}, never, 0)
		if keep {
			wantRead(t, "a sync, kept", d, 1, fill(size, 7), api.OK)
		} else {
			wantRead(t, "a sync, lost", d, 1, fill(size, 0), api.OK)
		}
	}
}

// P12.3: Arm with a number below 0 lets the power stay, with another one counts from it on; so does a crash let it stay.
func TestArmAnew(t *testing.T) {
	for _, n := range []int{-1, -2, least} {
		d := disk.New(1, size)
		d.Arm(0)
		d.Arm(n)
		for range 1000 {
			mustWrite(t, d, 0, ones())
			mustSync(t, d)
		}
		wantState(t, "armed no more", d, 2000, false)
	}
	d := disk.New(1, size)
	d.Arm(most)
	mustSync(t, d)
	d.Arm(1)
	d.Arm(2)
	mustSync(t, d)
	mustSync(t, d)
	if e := d.Sync(); e != api.ErrDown {
		t.Errorf("Sync, armed with two: %d", e)
	}
	d.Crash(nil, never, 0)
	d.Arm(0)
	d.Crash(nil, never, 0)
	for range 9 {
		mustSync(t, d)
	}
	wantState(t, "crashed while it was armed", d, 12, false)
}

// P12.3: Crash lays what is kept, one write behind the other, and the first bytes of the torn one, whatever is kept of that.
func TestCrash(t *testing.T) {
	yes, no := true, false
	for _, c := range []struct {
		keep      []bool
		torn, cut int
		zero, one []byte
	}{
		{nil, never, 0, fill(size, 9), fill(size, 0)},
		{[]bool{}, never, 16, fill(size, 9), fill(size, 0)},
		{[]bool{yes}, never, 0, fill(size, 1), fill(size, 0)},
		{[]bool{no, yes}, never, 0, fill(size, 9), fill(size, 2)},
		{[]bool{no, no, yes}, never, 0, fill(size, 3), fill(size, 0)},
		{[]bool{yes, yes, yes}, never, 0, fill(size, 3), fill(size, 2)},
		{[]bool{yes, yes, yes, yes, yes}, 3, 4, fill(size, 3), fill(size, 2)},
		{[]bool{yes, no, yes}, 2, 3, parts(3, 3, 13, 1), fill(size, 0)},
		{[]bool{yes, no, no}, 2, 3, parts(3, 3, 13, 1), fill(size, 0)},
		{[]bool{yes}, 2, 3, parts(3, 3, 13, 1), fill(size, 0)},
		{nil, 2, 3, parts(3, 3, 13, 9), fill(size, 0)},
		{nil, 2, 15, parts(15, 3, 1, 9), fill(size, 0)},
		{nil, 2, 16, fill(size, 3), fill(size, 0)},
		{nil, 2, 17, fill(size, 3), fill(size, 0)},
		{nil, 2, most, fill(size, 3), fill(size, 0)},
		{nil, 2, 1, parts(1, 3, 15, 9), fill(size, 0)},
		{nil, 2, 0, fill(size, 9), fill(size, 0)},
		{nil, 2, -1, fill(size, 9), fill(size, 0)},
		{[]bool{yes, yes, yes}, 2, least, fill(size, 1), fill(size, 2)},
		{[]bool{yes, yes, yes}, 0, -1, fill(size, 3), fill(size, 2)},
		{[]bool{yes, yes, no}, 0, 5, parts(5, 1, 11, 9), fill(size, 2)},
		{[]bool{yes, yes, no}, 1, 5, fill(size, 1), parts(5, 2, 11, 0)},
		{[]bool{yes, yes, yes}, 3, 5, fill(size, 3), fill(size, 2)},
		{[]bool{yes, yes, yes}, most, 5, fill(size, 3), fill(size, 2)},
		{[]bool{yes, yes, yes}, least, 5, fill(size, 3), fill(size, 2)},
	} {
		d := disk.New(2, size)
		mustWrite(t, d, 0, fill(size, 9))
		mustSync(t, d)
		mustWrite(t, d, 0, ones())
		mustWrite(t, d, 1, fill(size, 2))
		mustWrite(t, d, 0, fill(size, 3))
		d.Crash(c.keep, c.torn, c.cut)
		if got, want := d.Image(), slices.Concat(c.zero, c.one); !bytes.Equal(got, want) {
			t.Errorf("Crash(%v, %d, %d): %v; want %v", c.keep, c.torn, c.cut, got, want)
		}
		wantWaiting(t, "crashed", d)
		wantState(t, "crashed", d, 5, false)
	}
}

// P12.3: the chapter's example.
func TestExample(t *testing.T) {
	d := disk.New(1, 16)
	mustWrite(t, d, 0, fill(16, 1))
	mustWrite(t, d, 0, fill(16, 2))
	d.Crash([]bool{true}, 1, 3)
	wantRead(t, "the example", d, 0, parts(3, 2, 13, 1), api.OK)
}

// P12.3: nothing is waiting behind a crash, so what it laid is not taken back by the next one.
func TestCrashTwice(t *testing.T) {
	d := disk.New(2, size)
	mustWrite(t, d, 0, ones())
	mustWrite(t, d, 1, fill(size, 2))
	d.Crash([]bool{true}, 1, 6)
	d.Crash(nil, never, 0)
	wantImage(t, "crashed twice", d, ones(), parts(6, 2, 10, 0))
	mustWrite(t, d, 1, fill(size, 5))
	d.Crash([]bool{false, true}, 1, 6)
	wantImage(t, "crashed thrice", d, ones(), parts(6, 2, 10, 0))
}

// model is a disk by the document's words: each sector as it was when all was synced last, and as it reads now.
type model struct {
	size       int
	then, now  [][]byte
	waits      []int
	wrote      [][]byte
	reads      []int
	done, left int
	armed      bool
	down       bool
}

func newModel(sectors, size int) *model {
	m := &model{size: size, reads: make([]int, sectors)}
	for range sectors {
		m.then = append(m.then, fill(size, 0))
		m.now = append(m.now, fill(size, 0))
	}
	return m
}

// command tells whether one that is told no other error is done.
func (m *model) command() bool {
	if m.armed && m.left == 0 {
		m.down = true
		return false
	}
	m.left--
	m.done++
	return true
}

func (m *model) write(i int, b []byte) api.Errno {
	switch {
	case m.down:
		return api.ErrDown
	case i < 0 || i >= len(m.now):
		return api.ErrRange
	case len(b) != m.size:
		return api.ErrSize
	}
	m.now[i] = slices.Clone(b)
	m.waits = append(m.waits, i)
	m.wrote = append(m.wrote, slices.Clone(b))
	if !m.command() {
		return api.ErrDown
	}
	return api.OK
}

func (m *model) sync() api.Errno {
	if m.down || !m.command() {
		return api.ErrDown
	}
	m.settle(m.now)
	return api.OK
}

// settle leaves these sectors, and no write waiting.
func (m *model) settle(sectors [][]byte) {
	m.then, m.now = nil, nil
	for _, b := range sectors {
		m.then = append(m.then, slices.Clone(b))
		m.now = append(m.now, slices.Clone(b))
	}
	m.waits, m.wrote = nil, nil
}

func (m *model) read(i int) ([]byte, api.Errno) {
	switch {
	case m.down:
		return nil, api.ErrDown
	case i < 0 || i >= len(m.now):
		return nil, api.ErrRange
	}
	m.reads[i]++
	return m.now[i], api.OK
}

func (m *model) crash(keep []bool, torn, cut int) {
	for n, i := range m.waits {
		for k := range m.size {
			if n == torn && k < cut || n != torn && n < len(keep) && keep[n] {
				m.then[i][k] = m.wrote[n][k]
			}
		}
	}
	m.settle(m.then)
	clear(m.reads)
	m.armed, m.down = false, false
}

func (m *model) check(t *testing.T, d *disk.Disk) {
	t.Helper()
	wantImage(t, "by the model", d, m.now...)
	wantWaiting(t, "by the model", d, m.waits...)
	wantState(t, "by the model", d, m.done, m.down)
	for i, want := range m.reads {
		if d.Reads(i) != want {
			t.Errorf("Reads(%d): %d; want %d", i, d.Reads(i), want)
		}
	}
	if d.Sectors() != len(m.now) || d.Size() != m.size {
		t.Errorf("%d sectors of %d", d.Sectors(), d.Size())
	}
}

// anyBytes tells bytes of a sector; of some other size once in a while.
func anyBytes(next func(n int) int, size int) []byte {
	b := make([]byte, size+max(0, next(12)-10)-max(0, next(12)-10))
	for i := range b {
		b[i] = byte(next(256))
	}
	return b
}

// act does something to a disk and its model, and tells whether both answer the same.
func act(next func(n int) int, d *disk.Disk, m *model) bool {
	i := next(len(m.now)+2) - 1
	switch next(20) {
	case 0, 1:
		return d.Sync() == m.sync()
	case 2:
		n := next(12) - 2
		d.Arm(n)
		m.armed, m.left = n >= 0, n
		return true
	case 3:
		keep := make([]bool, next(len(m.waits)+3))
		for k := range keep {
			keep[k] = next(2) == 1
		}
		torn, cut := next(len(m.waits)+2)-1, next(m.size+4)-2
		d.Crash(keep, torn, cut)
		m.crash(keep, torn, cut)
		return true
	case 4, 5, 6, 7, 8:
		b, e := d.Read(i)
		want, wantE := m.read(i)
		return bytes.Equal(b, want) && e == wantE
	}
	b := anyBytes(next, m.size)
	return d.Write(i, b) == m.write(i, b)
}

// P12.1, P12.2, P12.3: whatever is done to a disk, it is as the document's words say.
func TestByModel(t *testing.T) {
	next := stepper()
	for range 60 {
		sectors, size := 1+next(6), 16+next(20)
		d, m := disk.New(sectors, size), newModel(sectors, size)
		for step := range 400 {
			if !act(next, d, m) {
				t.Fatalf("step %d: another answer", step)
			}
			m.check(t, d)
			if t.Failed() {
				t.Fatalf("step %d", step)
			}
		}
	}
}

// P12.1 to P12.3: the same of a disk that is as great as there is one.
func TestGreatest(t *testing.T) {
	d, m := disk.New(4096, 512), newModel(4096, 512)
	for k := range 3 * 4096 {
		i, b := k*1021%4096, fill(512, byte(k%251+1))
		if d.Write(i, b) != api.OK || m.write(i, b) != api.OK {
			t.Fatalf("Write(%d)", i)
		}
		if k == 4096 {
			mustSync(t, d)
			m.sync()
		}
	}
	m.check(t, d)
	keep := make([]bool, 2*4096)
	for k := range keep {
		keep[k] = k%3 == 0
	}
	d.Crash(keep, 8190, 511)
	m.crash(keep, 8190, 511)
	m.check(t, d)
	for i, want := range m.now {
		wantRead(t, "the greatest", d, i, want, api.OK)
	}
}

// roomyBytes tells bytes with spare room behind them, and all of it.
func roomyBytes(n int, c byte) (b, all []byte) {
	all = fill(3*n, c)
	return all[n : 2*n], all
}

// P12.4: what is handed in is neither changed nor kept.
func TestHandedIn(t *testing.T) {
	for _, armed := range []bool{false, true} {
		d := disk.New(2, size)
		if armed {
			d.Arm(0)
		}
		b, all := roomyBytes(size, 4)
		d.Write(1, b)
		if !bytes.Equal(all, fill(3*size, 4)) {
			t.Errorf("Write changed its bytes")
		}
		clear(all)
		wantImage(t, "bytes changed behind Write", d, fill(size, 0), fill(size, 4))
		keep := []bool{true, true, true}
		d.Crash(keep[:1], never, 0)
		if !slices.Equal(keep, []bool{true, true, true}) {
			t.Errorf("Crash changed keep")
		}
		wantRead(t, "bytes changed behind Write", d, 1, fill(size, 4), api.OK)
	}
}

// P12.4: what was synced, or kept by a crash, is not what was handed in either.
func TestHandedInAndSynced(t *testing.T) {
	d := disk.New(1, size)
	b, all := roomyBytes(size, 4)
	mustWrite(t, d, 0, b)
	mustSync(t, d)
	clear(all)
	wantRead(t, "changed behind Sync", d, 0, fill(size, 4), api.OK)
	mustWrite(t, d, 0, ones())
	if !bytes.Equal(all, make([]byte, 3*size)) {
		t.Errorf("Write changed the bytes of the one ahead")
	}
	d.Crash([]bool{true}, never, 0)
	wantRead(t, "kept", d, 0, ones(), api.OK)
	if !bytes.Equal(all, make([]byte, 3*size)) {
		t.Errorf("Crash changed the bytes of a write")
	}
}

// spoil changes all of a list, its spare room too.
func spoil(b []byte) {
	for i := range b[:cap(b)] {
		b[:cap(b)][i] ^= 0xff
	}
}

// P12.4: what is told is new memory, spare room too, of what is waiting and of what is synced.
func TestTold(t *testing.T) {
	d := disk.New(3, size)
	mustWrite(t, d, 0, ones())
	mustWrite(t, d, 1, fill(size, 2))
	mustSync(t, d)
	mustWrite(t, d, 1, fill(size, 3))
	mustWrite(t, d, 1, fill(size, 4))
	want := slices.Concat(ones(), fill(size, 4), fill(size, 0))
	for i := range 3 {
		one, _ := d.Read(i)
		two, _ := d.Read(i)
		spoil(one)
		if !bytes.Equal(two, want[i*size:(i+1)*size]) {
			t.Errorf("two answers of Read(%d) share memory", i)
		}
		wantRead(t, "spoilt", d, i, want[i*size:(i+1)*size], api.OK)
	}
	one, two := d.Image(), d.Image()
	spoil(one)
	if !bytes.Equal(two, want) {
		t.Errorf("two images share memory")
	}
	wantImage(t, "spoilt", d, want)
	first, second := d.Waiting(), d.Waiting()
	for i := range first[:cap(first)] {
		first[:cap(first)][i] = 9
	}
	if !slices.Equal(second, []int{1, 1}) {
		t.Errorf("two answers of Waiting share memory")
	}
	mustWrite(t, d, 2, ones())
	wantWaiting(t, "spoilt", d, 1, 1, 2)
	d.Crash([]bool{true}, never, 0)
	wantImage(t, "spoilt, and crashed", d, ones(), fill(size, 3), fill(size, 0))
}

// P12.4: nor does what was told change by what is done to the disk later.
func TestToldStays(t *testing.T) {
	d := disk.New(2, size)
	mustWrite(t, d, 0, ones())
	waiting := d.Waiting()
	image := d.Image()
	read, _ := d.Read(0)
	rest, _ := d.Read(1)
	mustWrite(t, d, 0, fill(size, 8))
	mustWrite(t, d, 1, fill(size, 8))
	mustSync(t, d)
	synced, _ := d.Read(0)
	mustWrite(t, d, 0, fill(size, 9))
	d.Crash([]bool{true}, never, 0)
	if !slices.Equal(waiting, []int{0}) || !bytes.Equal(image, parts(size, 1, size, 0)) {
		t.Errorf("told ahead: %v, %v", waiting, image)
	}
	if !bytes.Equal(read, ones()) || !bytes.Equal(rest, fill(size, 0)) || !bytes.Equal(synced, fill(size, 8)) {
		t.Errorf("told ahead: %v, %v, %v", read, rest, synced)
	}
}

// P12.1: disks share nothing with one another.
func TestTwoDisks(t *testing.T) {
	a, b := disk.New(2, size), disk.New(2, size)
	mustWrite(t, a, 0, ones())
	a.Read(0)
	mustSync(t, a)
	a.Arm(0)
	a.Sync()
	wantState(t, "the other one", b, 0, false)
	wantImage(t, "the other one", b, make([]byte, 2*size))
	if b.Reads(0) != 0 {
		t.Errorf("Reads of the other one: %d", b.Reads(0))
	}
}

// P1: no call panics, whatever it is given.
func TestWild(t *testing.T) {
	lists := [][]byte{nil, {}, {1}, ones(), fill(17, 1), fill(4096, 1)}
	keeps := [][]bool{nil, {}, {true}, {false, true}, make([]bool, 100)}
	d := disk.New(3, size)
	for _, i := range wildInts() {
		for _, b := range lists {
			d.Write(i, b)
		}
		d.Read(i)
		d.Reads(i)
		for _, n := range wildInts() {
			disk.New(i, n)
			d.Write(1, ones())
			d.Write(0, ones())
			d.Arm(n)
			d.Write(2, ones())
			d.Sync()
			d.Write(2, ones())
			d.Waiting()
			d.Image()
			d.Crash(keeps[(n&0xff)%len(keeps)], i, n)
		}
	}
}
