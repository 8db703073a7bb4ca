package pathtext_test

import (
	"math/big"
	"regexp"
	"slices"
	"strings"
	"testing"
	"unsafe"

	"limner/api"
	"limner/geom"
	"limner/path"
	"limner/pathtext"
)

const (
	// far is the last number in room.
	far = api.MaxCoord

	// most is how many segments a path has at most.
	most = 4096
)

type segs = []path.Seg

func at(x, y int) geom.Point { return geom.Point{X: x, Y: y} }

func seg(kind int, l ...geom.Point) path.Seg {
	s := path.Seg{Kind: kind}
	copy(s.P[:], l)
	return s
}

// stepper tells numbers that look like chance, the same in every run: from 0 up to n - 1.
func stepper() func(n int) int {
	state := uint64(0x9e3779b97f4a7c15)
	return func(n int) int {
		state ^= state << 13
		state ^= state >> 7
		state ^= state << 17
		return int((state >> 33) % uint64(n))
	}
}

// wantNeed has how many points a segment of a kind needs, wantLetters its letter, as the document has them.
var (
	wantNeed    = []int{0, 1, 1, 2, 3, 0}
	wantLetters = []string{"", "M", "L", "Q", "C", "Z"}
)

// wantNumber tells the text of a coordinate in room by exact numbers.
func wantNumber(a int) string {
	s := big.NewRat(int64(a), 256).FloatString(8)
	return strings.TrimSuffix(strings.TrimRight(s, "0"), ".")
}

var numberForm = regexp.MustCompile(`^(0|-?[1-9][0-9]*|-?(0|[1-9][0-9]*)\.[0-9]*[1-9])$`)

// wantCoordinate tells the coordinate in room whose text s is, and whether there is one.
func wantCoordinate(s string) (int, bool) {
	if len(s) > 20 || !numberForm.MatchString(s) {
		return 0, false
	}
	x, _ := new(big.Rat).SetString(s)
	x.Mul(x, big.NewRat(256, 1))
	if !x.IsInt() || x.Num().CmpAbs(big.NewInt(far)) > 0 {
		return 0, false
	}
	return int(x.Num().Int64()), true
}

// wantShow lays the text of a path piece by piece.
func wantShow(p segs) string {
	s := ""
	for i, g := range p {
		if i > 0 {
			s += " "
		}
		s += wantLetters[g.Kind]
		for k := 0; k < wantNeed[g.Kind]; k++ {
			s += " " + wantNumber(g.P[k].X) + " " + wantNumber(g.P[k].Y)
		}
	}
	return s
}

// The words of a loose text, and what parts them.
var (
	wordForm  = regexp.MustCompile(`^([A-Za-z]|[^A-Za-z ,\n]+)`)
	blankForm = regexp.MustCompile(`^[ ,\n]+`)
)

// wantWords takes the text apart from its front on.
func wantWords(s string) []string {
	var l []string
	for s != "" {
		w := wordForm.FindString(s)
		if w != "" {
			l = append(l, w)
		}
		s = s[len(w):]
		s = s[len(blankForm.FindString(s)):]
	}
	return l
}

// wantRead goes group by group through the words.
func wantRead(s string) (segs, int, api.Errno) {
	l := wantWords(s)
	isWord := func(w string) bool { return len(w) == 1 && strings.ContainsAny(w, "MLQCZmlqcz") }
	var p segs
	var begin, now geom.Point
	for i := 0; i < len(l); {
		letter := l[i]
		if !isWord(letter) {
			return nil, i, api.ErrForm
		}
		kind := slices.Index(wantLetters, strings.ToUpper(letter))
		if kind == 5 && len(p) == most {
			return nil, i, api.ErrMany
		}
		if kind != 1 && (len(p) == 0 || p[len(p)-1].Kind == 5) {
			return nil, i, api.ErrKind
		}
		i++
		if kind == 5 {
			p = append(p, seg(5))
			now = begin
			continue
		}
		for first := true; first || i < len(l) && !isWord(l[i]); first = false {
			if !first && kind == 1 {
				kind = 2
			}
			var all []int
			for k := range 2 * wantNeed[kind] {
				if i == len(l) {
					return nil, i, api.ErrForm
				}
				n, ok := wantCoordinate(l[i])
				if !ok {
					return nil, i, api.ErrForm
				}
				if letter == strings.ToLower(letter) {
					n += []int{now.X, now.Y}[k%2]
				}
				if n < -far || n > far {
					return nil, i, api.ErrOverflow
				}
				all = append(all, n)
				i++
			}
			if len(p) == most {
				return nil, i - 1, api.ErrMany
			}
			g := path.Seg{Kind: kind}
			for k := 0; k < len(all); k += 2 {
				now = at(all[k], all[k+1])
				g.P[k/2] = now
			}
			if kind == 1 {
				begin = now
			}
			p = append(p, g)
		}
	}
	return p, len(l), api.OK
}

// checkRead holds Words, Read and Parse of s to the document.
func checkRead(t *testing.T, s string) {
	t.Helper()
	l := wantWords(s)
	if got := pathtext.Words(s); !slices.Equal(got, l) {
		t.Errorf("Words(%.80q): %.80q; want %.80q", s, got, l)
	}
	p, n, e := wantRead(s)
	if got, gotN, gotE := pathtext.Read(s); gotN != n || gotE != e || !slices.Equal(got, p) {
		t.Errorf("Read(%.80q): %v, %d, %d; want %v, %d, %d", s, got, gotN, gotE, p, n, e)
	}
	if e != api.OK || wantShow(p) != s {
		p, e = nil, api.ErrForm
	}
	if got, gotE := pathtext.Parse(s); gotE != e || !slices.Equal(got, p) {
		t.Errorf("Parse(%.80q): %v, %d; want %v, %d", s, got, gotE, p, e)
	}
}

// anyNumber tells a coordinate: a small one, one of any size, or one at the ends of room.
func anyNumber(step func(int) int) int {
	switch step(8) {
	case 0:
		return far - step(3)
	case 1:
		return step(3) - far
	case 2, 3:
		return (step(2)*2 - 1) * step(1<<(1+step(31)))
	}
	return (step(41) - 20) * 64
}

// anyPath tells a path of up to n segments.
func anyPath(step func(int) int, n int) segs {
	var p segs
	for range step(n + 1) {
		kind := step(5) + 1
		if len(p) == 0 || p[len(p)-1].Kind == 5 {
			kind = 1
		}
		s := seg(kind)
		for k := range wantNeed[kind] {
			s.P[k] = at(anyNumber(step), anyNumber(step))
		}
		p = append(p, s)
	}
	return p
}

// P15.1: texts of chosen paths, and the paths of these texts.
func TestShowByHand(t *testing.T) {
	for _, c := range []struct {
		p segs
		s string
	}{
		{nil, ""},
		{segs{}, ""},
		{segs{seg(1)}, "M 0 0"},
		{segs{seg(1, at(0, 0)), seg(2, at(384, 0)), seg(5)}, "M 0 0 L 1.5 0 Z"},
		{segs{seg(1, at(-1, 1))}, "M -0.00390625 0.00390625"},
		{segs{seg(1, at(far, -far)), seg(2, at(1-far, far-1))}, "M 8388608 -8388608 L -8388607.99609375 8388607.99609375"},
		{segs{seg(1), seg(3, at(256, 512), at(768, 1024))}, "M 0 0 Q 1 2 3 4"},
		{segs{seg(1), seg(4, at(256, 512), at(768, 1024), at(1280, 1536))}, "M 0 0 C 1 2 3 4 5 6"},
		{segs{seg(1), seg(5), seg(1, at(256, 0)), seg(1, at(0, 256)), seg(5)}, "M 0 0 Z M 1 0 M 0 1 Z"},
		{segs{seg(1, at(2560, 25600)), seg(2, at(-2560, -25600))}, "M 10 100 L -10 -100"},
	} {
		if s, e := pathtext.Show(c.p); s != c.s || e != api.OK {
			t.Errorf("Show(%v): %q, %d; want %q", c.p, s, e, c.s)
		}
		if p, e := pathtext.Parse(c.s); !slices.Equal(p, c.p) || e != api.OK {
			t.Errorf("Parse(%q): %v, %d; want %v", c.s, p, e, c.p)
		}
	}
}

// P15.1: what is no path has layer 6's error, the first one, and no text.
func TestShowNoPath(t *testing.T) {
	row := slices.Repeat(segs{seg(1)}, most+1)
	for _, c := range []struct {
		p segs
		e api.Errno
	}{
		{segs{seg(2)}, api.ErrKind},
		{segs{seg(5)}, api.ErrKind},
		{segs{seg(0)}, api.ErrKind},
		{segs{seg(6)}, api.ErrKind},
		{segs{seg(-1)}, api.ErrKind},
		{segs{seg(1 << 62)}, api.ErrKind},
		{segs{seg(1), seg(5), seg(2)}, api.ErrKind},
		{segs{seg(1), seg(5), seg(5)}, api.ErrKind},
		{segs{seg(1, at(1, 1), at(0, 1))}, api.ErrKind},
		{segs{seg(1), seg(5, at(1, 0))}, api.ErrKind},
		{segs{seg(1), seg(3, at(0, 0), at(0, 0), at(1, 0))}, api.ErrKind},
		{segs{seg(1, at(far+1, 0))}, api.ErrRange},
		{segs{seg(1), seg(4, at(0, 0), at(0, 0), at(0, -far-1))}, api.ErrRange},
		{segs{seg(1, at(far+1, 0)), seg(9)}, api.ErrRange},
		{segs{seg(9), seg(1, at(far+1, 0))}, api.ErrKind},
		{row, api.ErrMany},
		{append(segs{seg(9)}, row...), api.ErrMany},
	} {
		if s, e := pathtext.Show(c.p); s != "" || e != c.e || e != path.Check(c.p) {
			t.Errorf("Show(%.80v): %q, %d; want %d", c.p, s, e, c.e)
		}
	}
}

// P15.1: texts that no path has.
func TestParseWrong(t *testing.T) {
	for _, s := range []string{
		" ", ",", "\n", "M", "M ", "M 0", "M 0 ", " M 0 0", "M 0 0 ", "M  0 0", "M 0  0", "M,0,0", "M 0,0", "M 0\n0", "M0 0", "M 0 0\n", "M 0 0Z", "M 0 0 Z ",
		"m 0 0", "M 0 0 l 1 1", "M 0 0 z", "M 0 0 q 1 1 2 2", "M 0 0 c 1 1 2 2 3 3", "M 0 0 1 1", "M 0 0 L 1 1 2 2", "M 0 0 Q 1 1 2 2 3 3 4 4", "M 0 0 L 1 1 2",
		"L 0 0", "Z", "M 0 0 Z Z", "M 0 0 Z L 1 1", "M 00 0", "M -0 0", "M 0.0 0", "M 1.50 0", "M .5 0", "M 5. 0", "M +1 0", "M 0.001 0", "M 8388609 0",
		"M 8388608.5 0", "M 0 0 Q 1 1", "M 0 0 C 1 1 2 2", "M 0 0 H 1", "M x 0", "0", "M 0 0 L", "M 0 0 0", "M 0 0\x00", "M\t0 0", "M 0 0 \xff", "Z M 0 0",
	} {
		if p, e := pathtext.Parse(s); len(p) != 0 || e != api.ErrForm {
			t.Errorf("Parse(%q): %v, %d", s, p, e)
		}
	}
}

// P15.1: of all short texts of these letters just those are read that a path has.
func TestParseEveryShortText(t *testing.T) {
	const longest = 7
	texts := map[string]segs{}
	for _, x := range []int{-11, -10, -1, 0, 1, 10, 11, 100, 101, 110, 111} {
		for _, y := range []int{-11, -10, -1, 0, 1, 10, 11, 100, 101, 110, 111} {
			p := segs{seg(1, at(256*x, 256*y))}
			texts[wantShow(p)] = p
			p = append(p, seg(5))
			texts[wantShow(p)] = p
		}
	}
	texts[""] = nil
	found := 0
	layer := []string{""}
	for n := 0; n <= longest; n++ {
		var longer []string
		for _, s := range layer {
			want, is := texts[s]
			wantE := api.ErrForm
			if is {
				wantE = api.OK
				found++
			}
			if p, e := pathtext.Parse(s); e != wantE || !slices.Equal(p, want) {
				t.Fatalf("Parse(%q): %v, %d; want %v, %d", s, p, e, want, wantE)
			}
			for _, c := range []byte("MZ 01-,") {
				if n < longest {
					longer = append(longer, s+string(c))
				}
			}
		}
		layer = longer
	}
	// "", and of numbers of 1 and 1, 1 and 2, 1 and 3 and 2 and 2 letters, with "Z" behind those of 1 and 1.
	if want := 1 + 4 + 2*2*3 + 2*2*6 + 3*3 + 4; found != want {
		t.Errorf("%d texts found; want %d", found, want)
	}
}

// P15.1, P15.3: texts of any paths are read, strictly and loosely.
func TestTextAndBack(t *testing.T) {
	step := stepper()
	for range 3000 {
		p := anyPath(step, 12)
		s := wantShow(p)
		if got, e := pathtext.Show(p); got != s || e != api.OK {
			t.Fatalf("Show(%v): %q, %d; want %q", p, got, e, s)
		}
		if got, e := pathtext.Parse(s); !slices.Equal(got, p) || e != api.OK {
			t.Fatalf("Parse(%q): %v, %d", s, got, e)
		}
		if got, n, e := pathtext.Read(s); !slices.Equal(got, p) || e != api.OK || n != len(strings.Fields(s)) {
			t.Fatalf("Read(%q): %v, %d, %d", s, got, n, e)
		}
	}
}

// P15.1, P15.2: texts of which one byte was changed, left out, or put between.
func TestSpoiltTexts(t *testing.T) {
	step := stepper()
	const bytes = "MLQCZmlqczHe0159-+. ,\n\t\x00\xff"
	for range 60 {
		s := wantShow(anyPath(step, 5))
		for i := range len(s) {
			c := bytes[step(len(bytes)):][:1]
			checkRead(t, s[:i]+c+s[i+1:])
			checkRead(t, s[:i]+s[i+1:])
			checkRead(t, s[:i]+c+s[i:])
			checkRead(t, s[:i])
		}
	}
}

// P15.2: the words of chosen texts.
func TestWordsByHand(t *testing.T) {
	for _, c := range []struct {
		s    string
		want []string
	}{
		{"", nil},
		{" ", nil},
		{", \n,\n\n  ", nil},
		{"M", []string{"M"}},
		{"m1,2 3,4z", []string{"m", "1", "2", "3", "4", "z"}},
		{"AZaz", []string{"A", "Z", "a", "z"}},
		{"@[`{", []string{"@[`{"}},
		{"1e5", []string{"1", "e", "5"}},
		{"1-2+3.4", []string{"1-2+3.4"}},
		{",,1,,2,,", []string{"1", "2"}},
		{"1\n2", []string{"1", "2"}},
		{"1\n\n ,2L", []string{"1", "2", "L"}},
		{" L ", []string{"L"}},
		{"1L 2", []string{"1", "L", "2"}},
		{"L%L", []string{"L", "%", "L"}},
		{"1\t2\r3;4\v5\f6\x006", []string{"1\t2\r3;4\v5\f6\x006"}},
		{"\xff\x80M\xc3", []string{"\xff\x80", "M", "\xc3"}},
		{"é ½M١", []string{"é", "½", "M", "١"}},
	} {
		if got := pathtext.Words(c.s); !slices.Equal(got, c.want) {
			t.Errorf("Words(%q): %q; want %q", c.s, got, c.want)
		}
	}
}

// P15.2: of each byte, whether it parts words, or is one, or a piece of one.
func TestWordsOfEachByte(t *testing.T) {
	for c := range 256 {
		s := string([]byte{'1', byte(c), '2'})
		want := []string{s}
		switch {
		case c == ' ' || c == ',' || c == '\n':
			want = []string{"1", "2"}
		case c >= 'A' && c <= 'Z' || c >= 'a' && c <= 'z':
			want = []string{"1", string(rune(c)), "2"}
		}
		if got := pathtext.Words(s); !slices.Equal(got, want) {
			t.Errorf("Words(%q): %q; want %q", s, got, want)
		}
	}
}

// P15.2: the paths of chosen loose texts.
func TestReadByHand(t *testing.T) {
	for _, c := range []struct {
		s, want string
		words   int
	}{
		{"", "", 0},
		{" ,\n", "", 0},
		{"m1,2 3,4z", "M 1 2 L 4 6 Z", 6},
		{"M1 2 3 4 5 6", "M 1 2 L 3 4 L 5 6", 7},
		{"m1 2 3 4 5 6", "M 1 2 L 4 6 L 9 12", 7},
		{"M1 2L3 4 5 6l1 1 1 1", "M 1 2 L 3 4 L 5 6 L 6 7 L 7 8", 13},
		{"M 1 2 m 3 4 M 5 6", "M 1 2 M 4 6 M 5 6", 9},
		// A small letter ahead says nothing of the next one, nor a great one.
		{"m1 1l1 1L1 1l1 1", "M 1 1 L 2 2 L 1 1 L 2 2", 12},
		// Each point of a group goes from the end of the segment ahead, not from the point ahead.
		{"M5 5q1 1 2 0 1 1 2 0", "M 5 5 Q 6 6 7 5 Q 8 6 9 5", 12},
		{"M5 5c1 0 1 1 0 1 1 0 1 1 0 1", "M 5 5 C 6 5 6 6 5 6 C 6 6 6 7 5 7", 16},
		{"M5 5q1 2 3 4C1 1 2 2 3 3l1 1", "M 5 5 Q 6 7 8 9 C 1 1 2 2 3 3 L 4 4", 18},
		// Behind a close it is where the subpath began, not where the pen was, nor where another subpath began.
		{"M1 1L9 9Zm1 1", "M 1 1 L 9 9 Z M 2 2", 10},
		{"m1 1l8 8zm1 1l8 8zm1 1", "M 1 1 L 9 9 Z M 2 2 L 10 10 Z M 3 3", 17},
		{"M1 1L9 9m1 1l1 1zm0 0", "M 1 1 L 9 9 M 10 10 L 11 11 Z M 10 10", 16},
		{"M1 1m5 5z m1 0z", "M 1 1 M 6 6 Z M 7 6 Z", 11},
		{"M1 1 2 2 3 3zm0 0", "M 1 1 L 2 2 L 3 3 Z M 1 1", 11},
		{"M1 1Z M2 2l1 1", "M 1 1 Z M 2 2 L 3 3", 10},
		{"m-0.5,0.25\n-1.5,-0.00390625", "M -0.5 0.25 L -2 0.24609375", 5},
		{"m8388608 -8388608 -8388608 8388608", "M 8388608 -8388608 L 0 0", 5},
		{"m-8388608 8388608 8388608 -8388608", "M -8388608 8388608 L 0 0", 5},
		{"M-8388608 8388608l8388608 0 8388608 0", "M -8388608 8388608 L 0 8388608 L 8388608 8388608", 8},
		{",,M,,1,,2,,", "M 1 2", 3},
	} {
		p, n, e := pathtext.Read(c.s)
		if s := wantShow(p); s != c.want || n != c.words || e != api.OK {
			t.Errorf("Read(%q): %q, %d, %d; want %q, %d", c.s, s, n, e, c.want, c.words)
		}
	}
}

// P15.2: the first error of chosen loose texts, and the word at which it is told.
func TestReadErrors(t *testing.T) {
	for _, c := range []struct {
		s  string
		at int
		e  api.Errno
	}{
		// Neither such a letter nor a number.
		{"x", 0, api.ErrForm},
		{"H 1", 0, api.ErrForm},
		{"%", 0, api.ErrForm},
		{"M 0 x", 2, api.ErrForm},
		{"M 0 0 H 1", 3, api.ErrForm},
		{"M 0 0 %", 3, api.ErrForm},
		{"M 0 0 Z %", 4, api.ErrForm},
		{"M 1e3 0", 2, api.ErrForm},
		{"M +1 0", 1, api.ErrForm},
		{"M -0 0", 1, api.ErrForm},
		{"M 00 0", 1, api.ErrForm},
		{"M 1.0 0", 1, api.ErrForm},
		{"M .5 0", 1, api.ErrForm},
		{"M 1-1", 1, api.ErrForm},
		{"M 0 0\r\n", 2, api.ErrForm},
		{"M 0\t0", 1, api.ErrForm},
		{"M 8388609 0", 1, api.ErrForm},
		{"M 0 8388608.5", 2, api.ErrForm},
		{"M 0 0 L 0.001 0", 4, api.ErrForm},
		// A number where none may stand.
		{"5", 0, api.ErrForm},
		{"5 M 0 0", 0, api.ErrForm},
		{"M 0 0 Z 1", 4, api.ErrForm},
		{"M 0 0 z 1 1", 4, api.ErrForm},
		// A letter where a number must come.
		{"M M", 1, api.ErrForm},
		{"M Z", 1, api.ErrForm},
		{"M 0 L 1 1", 2, api.ErrForm},
		{"M 0 0 1 L 1 1", 4, api.ErrForm},
		{"M 0 0 L Z", 4, api.ErrForm},
		{"M 0 0 Q 1 1 Z", 6, api.ErrForm},
		{"M 0 0 Q 1 1 2 2 3 3 Z", 10, api.ErrForm},
		{"M 0 0 C 1 1 2 2 3 m 1", 9, api.ErrForm},
		// The end where a number must come.
		{"M", 1, api.ErrForm},
		{"m ", 1, api.ErrForm},
		{"M 0", 2, api.ErrForm},
		{"M 0 0 1", 4, api.ErrForm},
		{"M 0 0 l", 4, api.ErrForm},
		{"M 0 0 L 1 1 2", 7, api.ErrForm},
		{"M 0 0 Q 1 1", 6, api.ErrForm},
		{"M 0 0 Q 1 1 2 2 3 3", 10, api.ErrForm},
		{"M 0 0 C 1 1 2 2", 8, api.ErrForm},
		{"M 0 0 C 1 1 2 2 3", 9, api.ErrForm},
		// A coordinate that leaves the room, at its own number.
		{"M 8388608 0 l 0.00390625 0", 4, api.ErrOverflow},
		{"M 8388608 0 l 0 0 1 0", 6, api.ErrOverflow},
		{"M 0 8388608 l 0 1", 5, api.ErrOverflow},
		{"M -8388608 0 l -1 0", 4, api.ErrOverflow},
		{"M 0 -8388608 l 0 -0.00390625", 5, api.ErrOverflow},
		{"m 8388608 0 1 0", 3, api.ErrOverflow},
		{"M 8388608 0 m 1 0", 4, api.ErrOverflow},
		{"M 8388608 0 L 0 0 Z m 1 0", 8, api.ErrOverflow},
		{"M 8388608 0 q 1 0 -1 0", 4, api.ErrOverflow},
		{"M 0 8388608 q -1 -1 0 8388608", 7, api.ErrOverflow},
		{"M 8388608 0 c -1 0 -1 0 1 0", 8, api.ErrOverflow},
		{"M 8388608 0 c -1 0 1 0 x", 6, api.ErrOverflow},
		{"M 8388608 0 l 1", 4, api.ErrOverflow},
		{"M 8388608 0 l x", 4, api.ErrForm},
		// A segment that may not stand there, at its letter, whatever comes behind it.
		{"L 0 0", 0, api.ErrKind},
		{"l", 0, api.ErrKind},
		{"Q x", 0, api.ErrKind},
		{"c", 0, api.ErrKind},
		{"Z", 0, api.ErrKind},
		{"z 1", 0, api.ErrKind},
		{"M 0 0 Z L 1 1", 4, api.ErrKind},
		{"M 0 0 z q", 4, api.ErrKind},
		{"M 0 0 Z C %", 4, api.ErrKind},
		{"M 0 0 Z z", 4, api.ErrKind},
		{"M 0 0 Z M 1 1 Z Z", 8, api.ErrKind},
		// The first one of several.
		{"M 0 0 Z Z 8388609", 4, api.ErrKind},
		{"M x Z Z", 1, api.ErrForm},
	} {
		if p, n, e := pathtext.Read(c.s); n != c.at || e != c.e || len(p) != 0 {
			t.Errorf("Read(%q): %v, %d, %d; want %d, %d", c.s, p, n, e, c.at, c.e)
		}
		checkRead(t, c.s)
	}
}

// P15.2: MaxNodes segments have room, and of one more it is told at its last word; what is wrong ahead of that word, or with it, is told first.
func TestReadMany(t *testing.T) {
	// Each has MaxNodes segments, and that many words.
	full := strings.Repeat("M0 0", most)
	lines := "m0 0" + strings.Repeat(",0 0", most-1)
	closed := "M0 0" + strings.Repeat(" 0 0", most-2) + "Z"
	const words, lineWords, closedWords = 3 * most, 2*most + 1, 2*most - 2 + 2
	for _, c := range []struct {
		s  string
		at int
		e  api.Errno
	}{
		{full, words, api.OK},
		{lines, lineWords, api.OK},
		{closed, closedWords, api.OK},
		{full + "M1 1", words + 2, api.ErrMany},
		{full + "m1 1", words + 2, api.ErrMany},
		{full + "L1 1", words + 2, api.ErrMany},
		{full + "Q1 1 2 2", words + 4, api.ErrMany},
		{full + "c1 1 2 2 3 3", words + 6, api.ErrMany},
		{full + " 1 1", words + 1, api.ErrMany},
		{lines + " 1 1", lineWords + 1, api.ErrMany},
		{lines + " 1 1 x", lineWords + 1, api.ErrMany},
		{full + "Z", words, api.ErrMany},
		{full + "z5", words, api.ErrMany},
		{lines + "z", lineWords, api.ErrMany},
		{closed + "M1 1", closedWords + 2, api.ErrMany},
		// The close one too many has one word, at which it may not stand either: what is named first is told.
		{closed + "Z", closedWords, api.ErrMany},
		{closed + "L1 1", closedWords, api.ErrKind},
		{closed + "1 1", closedWords, api.ErrForm},
		{full + "H", words, api.ErrForm},
		{full + "M", words + 1, api.ErrForm},
		{full + "M1", words + 2, api.ErrForm},
		{full + "M1 x", words + 2, api.ErrForm},
		{full + "MZ", words + 1, api.ErrForm},
		{full + " 1", words + 1, api.ErrForm},
		{full + " 1Z", words + 1, api.ErrForm},
		{full + "Q1 1 2", words + 4, api.ErrForm},
		{full + "M8388608 8388608m1 1", words + 2, api.ErrMany},
		{full[:len(full)-4] + "M8388608 8388608m1 1", words + 1, api.ErrOverflow},
		{full[:len(full)-4] + "M8388608 8388608m0 1", words + 2, api.ErrOverflow},
		{full[:len(full)-4] + "M8388608 8388608q0 1 x", words + 2, api.ErrOverflow},
		{full[:len(full)-4] + "M8388608 8388608q0 0 0 0", words + 4, api.ErrMany},
	} {
		p, n, e := pathtext.Read(c.s)
		if n != c.at || e != c.e || (e == api.OK) != (len(p) == most) {
			t.Errorf("Read(..%q): %d segments, %d, %d; want %d, %d", c.s[max(0, len(c.s)-30):], len(p), n, e, c.at, c.e)
		}
	}
	want := strings.TrimSuffix(strings.Repeat("M 0 0 ", most), " ")
	if s, e := pathtext.Show(slices.Repeat(segs{seg(1)}, most)); s != want || e != api.OK {
		t.Errorf("Show of MaxNodes segments: %d bytes, %d", len(s), e)
	}
	if p, e := pathtext.Parse(want); len(p) != most || e != api.OK {
		t.Errorf("Parse of MaxNodes segments: %d, %d", len(p), e)
	}
	// Such a text no path has.
	for _, s := range []string{want + " M 0 0", want + " Z"} {
		if p, e := pathtext.Parse(s); len(p) != 0 || e != api.ErrForm {
			t.Errorf("Parse of one too many: %d, %d", len(p), e)
		}
	}
}

// P15.1, P15.2: all short texts of these letters.
func TestEveryShortText(t *testing.T) {
	layer := []string{""}
	for n := 0; n <= 6; n++ {
		var longer []string
		for _, s := range layer {
			checkRead(t, s)
			for _, c := range []byte("MlZ1,x") {
				longer = append(longer, s+string(c))
			}
		}
		layer = longer
		if t.Failed() {
			return
		}
	}
}

// anyLoose tells a text of words that mostly fit on each other, with an odd one here and there.
func anyLoose(step func(int) int, odd int) string {
	odds := []string{"M", "L", "z", "C", "q", "H", "e", "%", "-", "00", "8388609", "1.5.5", "\xff", "\t", "8388608", "-8388608", "1"}
	gaps := []string{" ", ",", "\n", "  ", ", ", "\n,\n "}
	var b strings.Builder
	put := func(w string) {
		if step(odd) == 0 {
			w = odds[step(len(odds))]
		}
		letter := w[0] >= 'A' && w[0] <= 'z'
		if !letter || step(2) == 0 {
			b.WriteString(gaps[step(len(gaps))])
		}
		b.WriteString(w)
	}
	open := false
	for range step(8) {
		kind := step(5) + 1
		if !open {
			kind = 1
		}
		open = kind != 5
		w := wantLetters[kind]
		if step(2) == 0 {
			w = strings.ToLower(w)
		}
		put(w)
		for range (1 + step(3)) * 2 * wantNeed[kind] {
			put(wantNumber(anyNumber(step)))
		}
	}
	return b.String()
}

// P15.1, P15.2: any loose texts, whole ones and such with odd words.
func TestAnyLooseText(t *testing.T) {
	step := stepper()
	told := map[api.Errno]int{}
	for i := range 30000 {
		s := anyLoose(step, []int{1 << 20, 30, 8}[i%3])
		checkRead(t, s)
		if t.Failed() {
			return
		}
		_, _, e := pathtext.Read(s)
		told[e]++
	}
	for _, e := range []api.Errno{api.OK, api.ErrForm, api.ErrOverflow, api.ErrKind} {
		if told[e] < 100 {
			t.Errorf("the error %d was told %d times only", e, told[e])
		}
	}
}

// P15.2: what a text says, it says however its words are parted.
func TestGaps(t *testing.T) {
	step := stepper()
	gaps := []string{" ", ",", "\n", " ,", "\n\n", ",,, \n"}
	for range 1000 {
		p := anyPath(step, 8)
		var b strings.Builder
		for _, w := range strings.Fields(wantShow(p)) {
			b.WriteString(gaps[step(len(gaps))] + w)
		}
		for _, s := range []string{b.String(), b.String() + "\n", strings.TrimLeft(b.String(), " ,\n")} {
			if got, n, e := pathtext.Read(s); !slices.Equal(got, p) || n != len(wantWords(s)) || e != api.OK {
				t.Fatalf("Read(%q): %v, %d, %d; want %v", s, got, n, e, p)
			}
		}
	}
}

// P15.3: the same path may be told by small letters all through.
func TestSmallLetters(t *testing.T) {
	step := stepper()
	for range 2000 {
		var p segs
		for _, g := range anyPath(step, 10) {
			// Near enough to each other that what lies between two points is in room.
			for k := range g.P {
				g.P[k].X, g.P[k].Y = g.P[k].X/4, g.P[k].Y/4
			}
			p = append(p, g)
		}
		s := ""
		var begin, now geom.Point
		for _, g := range p {
			s += strings.ToLower(wantLetters[g.Kind])
			for _, q := range g.P[:wantNeed[g.Kind]] {
				s += " " + wantNumber(q.X-now.X) + "," + wantNumber(q.Y-now.Y)
			}
			switch g.Kind {
			case 1:
				begin, now = g.P[0], g.P[0]
			case 5:
				now = begin
			default:
				now = g.P[wantNeed[g.Kind]-1]
			}
		}
		if got, _, e := pathtext.Read(s); !slices.Equal(got, p) || e != api.OK {
			t.Fatalf("Read(%q): %v, %d; want %v", s, got, e, p)
		}
	}
}

// Memory: what Show is handed isn't changed, its spare room neither.
func TestHandedInStays(t *testing.T) {
	whole := slices.Repeat(segs{seg(1, at(256, 512)), seg(4, at(1, 2), at(3, 4), at(5, 6))}, 8)
	was := slices.Clone(whole)
	for n := range whole {
		pathtext.Show(whole[:n])
	}
	pathtext.Show(whole[1:3])
	if !slices.Equal(whole, was) {
		t.Errorf("%v became %v", was, whole)
	}
}

// Memory: no two paths that are told share any, spare room too, and nothing is kept from call to call.
func TestToldIsNew(t *testing.T) {
	const s = "M 0 0 L 1.5 0 L 1.5 1.5 Q 1 1 0 1 Z"
	var lists []segs
	for range 3 {
		p, _ := pathtext.Parse(s)
		q, _, _ := pathtext.Read(s)
		lists = append(lists, p, q)
	}
	want := slices.Clone(lists[0])
	for i, l := range lists {
		l = l[:cap(l)]
		for j := range l {
			l[j] = seg(i)
		}
	}
	for i, l := range lists {
		for _, g := range l[:cap(l)] {
			if g != seg(i) {
				t.Fatalf("the path %d shares memory with another one", i)
			}
		}
	}
	if p, e := pathtext.Parse(s); !slices.Equal(p, want) || e != api.OK {
		t.Errorf("Parse(%q) once more: %v, %d", s, p, e)
	}
}

// Memory: the lists of words share none, and words share none with the text.
func TestWordsAreNew(t *testing.T) {
	b := []byte("m1,2 3,4z")
	// A text that changes, which no text does that is a program's own: so it shows who has kept it.
	s := unsafe.String(&b[0], len(b))
	l, o := pathtext.Words(s), pathtext.Words(s)
	want := []string{"m", "1", "2", "3", "4", "z"}
	for i := range b {
		b[i] = '#'
	}
	clear(l[:cap(l)])
	if !slices.Equal(o, want) {
		t.Errorf("Words: %q; want %q", o, want)
	}
}

// P1: texts of any bytes, and long ones of one kind of word.
func TestWild(t *testing.T) {
	step := stepper()
	for range 3000 {
		b := make([]byte, step(40))
		for i := range b {
			b[i] = byte(step(256))
		}
		checkRead(t, string(b))
	}
	const long = 1 << 16
	for _, c := range []string{"M", "z", "x", "0", "9", ".", "-", " ", ",", "\n", "\xff", "\x00", "M0 0", "m1 1", "M 0 0 Z ", "1 "} {
		checkRead(t, strings.Repeat(c, long/len(c)))
		checkRead(t, "M 0 0 "+strings.Repeat(c, long/len(c)))
		checkRead(t, "M "+strings.Repeat(c, long/len(c))+" 0 0")
	}
	// The words behind the first error are not gathered, as they may be far too many.
	wrong := strings.Repeat("M", 1<<22)
	if n := testing.AllocsPerRun(3, func() { pathtext.Read(wrong) }); n > 10 {
		t.Errorf("Read of a text whose second word is wrong takes memory %v times", n)
	}
}
