package bits

import (
	"bytes"
	"fmt"
	"math"
	"slices"
	"strings"
	"testing"

	"chequer/api"
)

const widest = 4096

// noWidths are numbers that are no width.
func noWidths() []int {
	return []int{0, -1, -7, -8, -9, -4096, math.MinInt, math.MinInt + 1, widest + 1, widest + 8, 2 * widest, 1 << 16, 1 << 32, 1 << 62, math.MaxInt - 7, math.MaxInt}
}

// widths are ones at and beside where something changes, and some between.
func widths() []int {
	l := []int{99, 100, 1000, 2047, 2048, 2049, 4087, 4088, 4089, 4095, 4096}
	for w := 1; w <= 40; w++ {
		l = append(l, w)
	}
	return l
}

// text is bytes, each as eight digits, the highest bit first.
func text(b []byte) string {
	var s strings.Builder
	for _, c := range b {
		fmt.Fprintf(&s, "%08b", c)
	}
	return s.String()
}

// numbers are a text's digits.
func numbers(s string) []int {
	l := make([]int, len(s))
	for i, c := range s {
		l[i] = int(c - '0')
	}
	return l
}

// mixed are n bytes without a rule to be seen, others for each seed.
func mixed(n, seed int) []byte {
	b := make([]byte, n)
	for i := range b {
		b[i] = byte((i + seed + 3) * (i + 5*seed + 11) * 37 >> 3)
	}
	return b
}

// eighth is how many bytes so many pixels need.
func eighth(w int) int {
	n := w / 8
	if w%8 != 0 {
		n++
	}
	return n
}

// P7.1

func TestBytes(t *testing.T) {
	for _, x := range [][2]int{{1, 1}, {2, 1}, {7, 1}, {8, 1}, {9, 2}, {15, 2}, {16, 2}, {17, 3}, {4087, 511}, {4088, 511}, {4089, 512}, {4095, 512}, {4096, 512}} {
		if n := Bytes(x[0]); n != x[1] {
			t.Errorf("Bytes(%d) = %d, not %d", x[0], n, x[1])
		}
	}
	for w := 1; w <= widest; w++ {
		if n := Bytes(w); n != eighth(w) {
			t.Errorf("Bytes(%d) = %d", w, n)
		}
	}
	for _, w := range noWidths() {
		if n := Bytes(w); n != 0 {
			t.Errorf("Bytes(%d) = %d", w, n)
		}
	}
}

func unpacks(t *testing.T, b []byte, w int, want []int) {
	t.Helper()
	if l, e := Unpack(b, w); !slices.Equal(l, want) || e != api.OK {
		t.Errorf("Unpack(%v, %d) = %v, %v, not %v", b, w, l, e, want)
	}
}

func TestUnpack(t *testing.T) {
	unpacks(t, []byte{160}, 3, []int{1, 0, 1})
	unpacks(t, []byte{128}, 1, []int{1})
	unpacks(t, []byte{127}, 1, []int{0})
	unpacks(t, []byte{1}, 8, []int{0, 0, 0, 0, 0, 0, 0, 1})
	unpacks(t, []byte{1}, 7, []int{0, 0, 0, 0, 0, 0, 0})
	unpacks(t, []byte{1, 128}, 9, []int{0, 0, 0, 0, 0, 0, 0, 1, 1})
	unpacks(t, []byte{254, 127}, 9, []int{1, 1, 1, 1, 1, 1, 1, 0, 0})
	unpacks(t, []byte{0xA5, 0xFF}, 10, []int{1, 0, 1, 0, 0, 1, 0, 1, 1, 1})
}

func TestUnpackOfEveryByte(t *testing.T) {
	for c := range 256 {
		s := text([]byte{byte(c)})
		for w := 1; w <= 8; w++ {
			unpacks(t, []byte{byte(c)}, w, numbers(s[:w]))
			unpacks(t, []byte{0x5A, byte(c)}, 8+w, numbers("01011010"+s[:w]))
		}
	}
}

func TestUnpackOfEveryWidth(t *testing.T) {
	b := mixed(eighth(widest), 1)
	s := text(b)
	for w := 1; w <= widest; w++ {
		if l, e := Unpack(b[:eighth(w)], w); !slices.Equal(l, numbers(s[:w])) || e != api.OK {
			t.Errorf("Unpack of %d pixels: %v, %v", w, l, e)
		}
	}
}

func TestUnpackOfMoreAndFewerBytes(t *testing.T) {
	for _, w := range widths() {
		n := eighth(w)
		b := mixed(n+600, w)
		want := numbers(text(b[:n])[:w])
		for _, more := range []int{0, 1, 2, 600} {
			unpacks(t, b[:n+more], w, want)
		}
		for _, fewer := range []int{1, n/2 + 1, n} {
			refused(t, b[:n-fewer], w, api.ErrShort)
		}
		refused(t, nil, w, api.ErrShort)
	}
}

// refused holds all calls of a row that is none against how they refuse it.
func refused(t *testing.T, b []byte, w int, want api.Errno) {
	t.Helper()
	if l, e := Unpack(b, w); len(l) != 0 || e != want {
		t.Errorf("Unpack of %d bytes, %d = %v, %v, not %v", len(b), w, l, e, want)
	}
	if x, e := Turned(b, w); len(x) != 0 || e != want {
		t.Errorf("Turned of %d bytes, %d = %v, %v, not %v", len(b), w, x, e, want)
	}
	if n := Count(b, w); n != 0 {
		t.Errorf("Count of %d bytes, %d = %d", len(b), w, n)
	}
	if n := Spare(b, w); n != 0 {
		t.Errorf("Spare of %d bytes, %d = %d", len(b), w, n)
	}
}

// That a width is none is told first, however few bytes there are.
func TestNoWidthIsRefused(t *testing.T) {
	ones := bytes.Repeat([]byte{255}, 1000)
	for _, w := range noWidths() {
		for _, n := range []int{0, 1, 2, 511, 512, 513, 1000} {
			refused(t, ones[:n], w, api.ErrArg)
		}
		refused(t, nil, w, api.ErrArg)
	}
}

func TestTooFewBytesAreRefused(t *testing.T) {
	ones := bytes.Repeat([]byte{255}, 512)
	for w := 1; w <= widest; w++ {
		refused(t, ones[:eighth(w)-1], w, api.ErrShort)
	}
	refused(t, []byte{0xA5, 0xFF}, 17, api.ErrShort)
	refused(t, []byte{}, 1, api.ErrShort)
}

func packs(t *testing.T, l []int, want []byte) {
	t.Helper()
	if b, e := Pack(l); !bytes.Equal(b, want) || e != api.OK {
		t.Errorf("Pack(%v) = %v, %v, not %v", l, b, e, want)
	}
}

func TestPack(t *testing.T) {
	packs(t, []int{1, 0, 1}, []byte{160})
	packs(t, []int{0}, []byte{0})
	packs(t, []int{1}, []byte{128})
	packs(t, []int{0, 0, 0, 0, 0, 0, 0, 0}, []byte{0})
	packs(t, []int{1, 0, 0, 0, 0, 0, 0, 0}, []byte{128})
	packs(t, []int{0, 0, 0, 0, 0, 0, 0, 1}, []byte{1})
	packs(t, []int{1, 1, 1, 1, 1, 1, 1, 1}, []byte{255})
	packs(t, []int{0, 0, 0, 0, 0, 0, 0, 0, 1}, []byte{0, 128})
	packs(t, []int{1, 1, 1, 1, 1, 1, 1, 1, 0}, []byte{255, 0})
	packs(t, []int{1, 0, 1, 0, 0, 1, 0, 1, 1, 1}, []byte{0xA5, 0xC0})
	packs(t, slices.Repeat([]int{1}, widest), bytes.Repeat([]byte{255}, 512))
	packs(t, slices.Repeat([]int{0}, widest), make([]byte, 512))
	packs(t, slices.Repeat([]int{1}, widest-1), append(bytes.Repeat([]byte{255}, 511), 254))
}

func TestPackOfOnePixelAmongNoughts(t *testing.T) {
	for _, w := range widths() {
		for _, at := range []int{0, w / 2, w - 1} {
			l := make([]int, w)
			l[at] = 1
			want := make([]byte, eighth(w))
			want[at/8] = []byte{128, 64, 32, 16, 8, 4, 2, 1}[at%8]
			packs(t, l, want)
		}
	}
}

func TestPackRefuses(t *testing.T) {
	none := func(l []int, what string) {
		t.Helper()
		if b, e := Pack(l); len(b) != 0 || e != api.ErrArg {
			t.Errorf("Pack of %s: %v, %v", what, b, e)
		}
	}
	none(nil, "nil")
	none([]int{}, "none")
	for _, n := range []int{widest + 1, widest + 8, 2 * widest, 1 << 16} {
		none(make([]int, n), fmt.Sprint(n, " noughts"))
		none(slices.Repeat([]int{1}, n), fmt.Sprint(n, " ones"))
		none(slices.Repeat([]int{2}, n), fmt.Sprint(n, " of 2"))
	}
	for _, odd := range []int{2, 3, -1, -2, 128, 254, 255, 256, 257, -255, 1 << 32, 1<<32 + 1, math.MaxInt, math.MinInt, math.MinInt + 1} {
		for _, w := range widths() {
			for _, at := range []int{0, w / 2, w - 1} {
				for n := range 2 {
					l := slices.Repeat([]int{n}, w)
					l[at] = odd
					none(l, fmt.Sprint(w, " of ", n, ", at ", at, " ", odd))
				}
			}
		}
	}
}

func TestBit(t *testing.T) {
	for _, n := range []int{1, 2, 3, 511, 512, 513, 1000} { // of any bytes, a row's or not
		b := mixed(n, n)
		for i, want := range numbers(text(b)) {
			if bit, is := Bit(b, i); bit != want || !is {
				t.Errorf("Bit %d of %d bytes: %d, %v, not %d", i, n, bit, is, want)
			}
		}
	}
	if bit, is := Bit([]byte{0xA5, 0xFF}, 0); bit != 1 || !is {
		t.Error(bit, is)
	}
	if bit, is := Bit([]byte{0xFF, 0xFE}, 15); bit != 0 || !is {
		t.Error(bit, is)
	}
	if bit, is := Bit([]byte{0x7F}, 0); bit != 0 || !is {
		t.Error(bit, is)
	}
}

func TestNoBit(t *testing.T) {
	for _, n := range []int{0, 1, 2, 512, 1000} {
		b := bytes.Repeat([]byte{255}, n)
		for _, i := range []int{8 * n, 8*n + 1, 8*n + 7, 8*n + 8, -1, -7, -8, -9, -8 * n, -8*n - 1, 1 << 32, 1 << 61, 1 << 62, math.MaxInt, math.MinInt, math.MinInt + 1} {
			if i == 0 && n > 0 {
				continue
			}
			if bit, is := Bit(b, i); bit != 0 || is {
				t.Errorf("Bit %d of %d bytes: %d, %v", i, n, bit, is)
			}
		}
	}
	if bit, is := Bit(nil, 0); bit != 0 || is {
		t.Error(bit, is)
	}
	if bit, is := Bit(bytes.Repeat([]byte{255}, 20)[:2], 16); bit != 0 || is { // what is behind a list's end is not its
		t.Error(bit, is)
	}
}

func TestCount(t *testing.T) {
	for _, x := range []struct {
		b       []byte
		w, want int
	}{
		{[]byte{0xA5, 0xFF}, 10, 6},
		{[]byte{0xA5, 0xFF}, 16, 12},
		{[]byte{0xA5, 0xFF}, 8, 4},
		{[]byte{0xA5, 0xFF}, 1, 1},
		{[]byte{0x7F, 0xFF}, 1, 0},
		{[]byte{0x00, 0x7F}, 9, 0},
		{[]byte{0}, 8, 0},
		{[]byte{255}, 8, 8},
		{bytes.Repeat([]byte{255}, 512), widest, widest},
		{bytes.Repeat([]byte{255}, 600), widest, widest},
		{bytes.Repeat([]byte{255}, 512), widest - 1, widest - 1},
		{bytes.Repeat([]byte{255}, 512), 1, 1},
	} {
		if n := Count(x.b, x.w); n != x.want {
			t.Errorf("Count(%v, %d) = %d, not %d", x.b, x.w, n, x.want)
		}
	}
	for _, w := range widths() {
		b := mixed(eighth(w)+2, w)
		if n, want := Count(b, w), strings.Count(text(b)[:w], "1"); n != want {
			t.Errorf("Count(%v, %d) = %d, not %d", b, w, n, want)
		}
	}
}

func TestSpare(t *testing.T) {
	for _, x := range []struct {
		b       []byte
		w, want int
	}{
		{[]byte{0xA5, 0xFF}, 10, 63},
		{[]byte{0xA5, 0xC0}, 10, 0},
		{[]byte{0xA5, 0xFF}, 16, 0},
		{[]byte{0xA5, 0xFF}, 8, 0},
		{[]byte{0xA5, 0xFF}, 3, 5}, // of the row's last byte, not of what is behind it
		{[]byte{0xFF}, 1, 127},
		{[]byte{0xFF}, 7, 1},
		{[]byte{0xFE}, 7, 0},
		{[]byte{0x00, 0xFF}, 9, 127},
		{[]byte{0xFF, 0x80}, 9, 0},
		{bytes.Repeat([]byte{255}, 512), widest, 0},
		{bytes.Repeat([]byte{255}, 512), widest - 1, 1},
		{bytes.Repeat([]byte{255}, 512), widest - 7, 127},
		{bytes.Repeat([]byte{255}, 512), widest - 8, 0},
	} {
		if n := Spare(x.b, x.w); n != x.want {
			t.Errorf("Spare(%v, %d) = %d, not %d", x.b, x.w, n, x.want)
		}
	}
}

func TestSpareOfEveryLastByte(t *testing.T) {
	for c := range 256 {
		for w := 1; w <= 8; w++ {
			want := 0
			for _, n := range numbers(text([]byte{byte(c)})[w:]) {
				want = 2*want + n
			}
			for _, x := range []struct {
				b []byte
				w int
			}{{[]byte{byte(c)}, w}, {[]byte{byte(c), 255}, w}, {[]byte{255, byte(c)}, 8 + w}} {
				if n := Spare(x.b, x.w); n != want {
					t.Errorf("Spare(%v, %d) = %d, not %d", x.b, x.w, n, want)
				}
			}
		}
	}
}

// P7.2

func TestRuns(t *testing.T) {
	for _, x := range [][2][]int{
		{nil, nil},
		{{}, nil},
		{{0}, {1}},
		{{1}, {0, 1}},
		{{0, 0, 1}, {2, 1}},
		{{1, 1, 0}, {0, 2, 1}},
		{{0, 0, 0}, {3}},
		{{1, 1, 1}, {0, 3}},
		{{0, 1, 0, 1}, {1, 1, 1, 1}},
		{{1, 0, 1, 0}, {0, 1, 1, 1, 1}},
		{{0, 1, 1, 0, 0, 0}, {1, 2, 3}},
		// others count as 1, and so are the same as it and as one another
		{{2}, {0, 1}},
		{{-1}, {0, 1}},
		{{5, -1, 0, 0}, {0, 2, 2}},
		{{0, 1, 2, -1, 7, 1, 0}, {1, 5, 1}},
		{{256, 1 << 32, math.MaxInt, math.MinInt, 0, 2, 0, -2}, {0, 4, 1, 1, 1, 1}},
	} {
		if r := Runs(x[0]); !slices.Equal(r, x[1]) {
			t.Errorf("Runs(%v) = %v, not %v", x[0], r, x[1])
		}
	}
}

// Of more than a row, too: no promise asks for a width.
func TestRunsOfMany(t *testing.T) {
	for _, n := range []int{widest - 1, widest, widest + 1, 100000} {
		if r := Runs(make([]int, n)); !slices.Equal(r, []int{n}) {
			t.Errorf("%d noughts: %v", n, r)
		}
		if r := Runs(slices.Repeat([]int{1}, n)); !slices.Equal(r, []int{0, n}) {
			t.Errorf("%d ones: %v", n, r)
		}
		if r := Runs(slices.Repeat([]int{0, 1}, n)); !slices.Equal(r, slices.Repeat([]int{1}, 2*n)) {
			t.Errorf("%d of 0 1: %d runs", n, len(r))
		}
	}
}

func unruns(t *testing.T, runs, want []int) {
	t.Helper()
	if l := Unrun(runs); !slices.Equal(l, want) {
		t.Errorf("Unrun(%v) = %v, not %v", runs, l, want)
	}
}

func TestUnrun(t *testing.T) {
	unruns(t, nil, nil)
	unruns(t, []int{}, nil)
	unruns(t, []int{0}, nil)
	unruns(t, []int{0, 0, 0, 0}, nil)
	unruns(t, []int{-1}, nil)
	unruns(t, []int{-1, -5, math.MinInt}, nil)
	unruns(t, []int{1}, []int{0})
	unruns(t, []int{0, 1}, []int{1})
	unruns(t, []int{2, 1}, []int{0, 0, 1})
	unruns(t, []int{0, 2, 1}, []int{1, 1, 0})
	unruns(t, []int{0, 2, -5, 1, 1}, []int{1, 1, 1, 0})
	unruns(t, []int{2, 0, 1, 1}, []int{0, 0, 0, 1})
	unruns(t, []int{-3, -3, 2, 1, 0}, []int{0, 0, 1})
	unruns(t, []int{1, math.MinInt, math.MinInt, 1}, []int{0, 1})
}

func TestUnrunOfMany(t *testing.T) {
	ofEach := func(noughts, ones int) []int {
		return append(make([]int, noughts), slices.Repeat([]int{1}, ones)...)
	}
	unruns(t, []int{widest}, ofEach(widest, 0))
	unruns(t, []int{0, widest}, ofEach(0, widest))
	unruns(t, []int{4000, 96}, ofEach(4000, 96))
	unruns(t, []int{4000, 95}, ofEach(4000, 95))
	unruns(t, []int{4000, 96, 0, 0}, ofEach(4000, 96))
	unruns(t, []int{4000, 96, -1, -1}, ofEach(4000, 96))
	unruns(t, slices.Repeat([]int{1}, widest), slices.Repeat([]int{0, 1}, widest/2))
	unruns(t, make([]int, 100000), nil)
	unruns(t, append(make([]int, 100000), 1, 1), []int{0, 1})
	// what is below 1 counts as 0, and takes nothing off the others
	unruns(t, []int{-1, widest, -1}, ofEach(0, widest))
	for _, runs := range [][]int{
		{widest + 1},
		{0, widest + 1},
		{4000, 97},
		{4000, 96, 1},
		{4000, 96, 0, 1},
		{1, widest},
		{widest, 1},
		slices.Repeat([]int{1}, widest+1),
		{widest + 1, -1},
		{-1, widest + 1},
		{-1, widest, 1},
		{widest, math.MinInt, 1},
		{widest, -widest, widest},
		// the sum wraps round, to a small number, to 0, or below it
		{1 << 62},
		{math.MaxInt},
		{math.MaxInt, 1},
		{math.MaxInt, math.MaxInt, 2},
		{math.MaxInt, math.MaxInt, 3},
		{1, math.MaxInt},
		{1, math.MaxInt, math.MaxInt, 3},
		{widest, math.MaxInt},
		{1 << 62, 1 << 62, 1 << 62, 1 << 62},
		{1 << 62, 1 << 62, 1 << 62, 1 << 62, 1},
		{math.MaxInt, math.MinInt, 1},
	} {
		unruns(t, runs, nil)
	}
}

func turns(t *testing.T, b []byte, w int, want []byte) {
	t.Helper()
	if x, e := Turned(b, w); !bytes.Equal(x, want) || e != api.OK {
		t.Errorf("Turned(%v, %d) = %v, %v, not %v", b, w, x, e, want)
	}
}

func TestTurned(t *testing.T) {
	turns(t, []byte{0xA5, 0xFF}, 10, []byte{0xE9, 0x40})
	turns(t, []byte{128}, 1, []byte{128})
	turns(t, []byte{0}, 1, []byte{0})
	turns(t, []byte{128}, 3, []byte{32})
	turns(t, []byte{1}, 8, []byte{128})
	turns(t, []byte{0x12, 0x34}, 16, []byte{0x2C, 0x48})
	turns(t, []byte{0x12, 0x34}, 8, []byte{0x48})
	// spare bits are no pixels
	turns(t, []byte{255}, 1, []byte{128})
	turns(t, []byte{127}, 1, []byte{0})
	turns(t, []byte{0, 127}, 9, []byte{0, 0})
	turns(t, []byte{1, 255, 255}, 9, []byte{0xC0, 0})
}

func TestTurnedIsThePixelsFromTheLastOneOn(t *testing.T) {
	for _, w := range widths() {
		n := eighth(w)
		for _, b := range [][]byte{mixed(n, w), mixed(n+1, w+1), bytes.Repeat([]byte{255}, n)} {
			l := numbers(text(b)[:w])
			slices.Reverse(l)
			x, e := Turned(b, w)
			if e != api.OK || len(x) != n || !slices.Equal(numbers(text(x)), append(l, make([]int, 8*n-w)...)) {
				t.Errorf("Turned(%v, %d) = %v, %v", b, w, x, e)
			}
			back := x
			if back, e = Turned(x, w); e != api.OK || len(back) != n || text(back)[:w] != text(b)[:w] || Spare(back, w) != 0 {
				t.Errorf("Turned(%v, %d) = %v, %v, of what was %v", x, w, back, e, b)
			}
		}
	}
}

// P7.3

// asTheyWere holds a row's pixels against what they are, packed and unpacked, and run and unrun.
func asTheyWere(t *testing.T, l []int) {
	t.Helper()
	b, e := Pack(l)
	if e != api.OK || len(b) != eighth(len(l)) || Spare(b, len(l)) != 0 {
		t.Fatalf("Pack(%v) = %v, %v", l, b, e)
	}
	unpacks(t, b, len(l), l)
	ones := 0
	for _, n := range l {
		ones += n
	}
	if n := Count(b, len(l)); n != ones {
		t.Errorf("Count(%v, %d) = %d, not %d", b, len(l), n, ones)
	}
	runs := Runs(l)
	unruns(t, runs, l)
	if sum := total(runs); sum != len(l) || slices.Contains(runs[1:], 0) || (runs[0] == 0) != (l[0] == 1) {
		t.Errorf("Runs(%v) = %v", l, runs)
	}
}

func total(l []int) int {
	sum := 0
	for _, n := range l {
		sum += n
	}
	return sum
}

func TestShortRowsAreAsTheyWere(t *testing.T) {
	for w := 1; w <= 12; w++ {
		for n := range 1 << w {
			asTheyWere(t, numbers(fmt.Sprintf("%0*b", w, n)))
		}
	}
}

func TestRowsAreAsTheyWere(t *testing.T) {
	for _, w := range widths() {
		asTheyWere(t, make([]int, w))
		asTheyWere(t, slices.Repeat([]int{1}, w))
		asTheyWere(t, slices.Repeat([]int{0, 1}, w)[:w])
		asTheyWere(t, slices.Repeat([]int{1, 0}, w)[:w])
		for seed := range 5 {
			asTheyWere(t, numbers(text(mixed(eighth(w), seed))[:w]))
		}
	}
}

// But for the spare bits, what is unpacked is packed as it was.
func TestBytesAreAsTheyWere(t *testing.T) {
	for _, w := range widths() {
		b := mixed(eighth(w), w)
		b[len(b)-1] -= byte(Spare(b, w))
		l, _ := Unpack(b, w)
		packs(t, l, b)
	}
}

// R4

func TestArgumentsAreLeft(t *testing.T) {
	room := []byte{0xA5, 0xFF, 0x3C, 0x81, 0x7E}
	for n := range len(room) {
		for _, w := range []int{-1, 0, 1, 7, 8, 9, 15, 16, 17, 30, 32, 33} {
			b := room[:n]
			Unpack(b, w)
			Bit(b, w)
			Count(b, w)
			Spare(b, w)
			Turned(b, w)
		}
	}
	if !bytes.Equal(room, []byte{0xA5, 0xFF, 0x3C, 0x81, 0x7E}) {
		t.Error(room)
	}
	numbers := []int{0, 1, 1, 0, 1, 0, 0, 0, 1, 1, 7, -1, 3, 5000, 9}
	were := slices.Clone(numbers)
	for n := range numbers {
		Pack(numbers[:n])
		Runs(numbers[:n])
		Unrun(numbers[:n])
	}
	if !slices.Equal(numbers, were) {
		t.Error(numbers)
	}
}

// asIs holds an answer, whose memory is overwritten with its spare room, against one more and against what was handed in.
func asIs[A, B comparable](t *testing.T, what string, in []A, made func(in []A) []B) {
	t.Helper()
	were := slices.Clone(in)
	first := made(in)
	want := slices.Clone(first)
	second := made(in)
	clear(first[:cap(first)])
	if !slices.Equal(in, were) || !slices.Equal(second, want) || !slices.Equal(made(in), want) {
		t.Errorf("%s is not new: %v, %v", what, in, second)
	}
	clear(in)
	if !slices.Equal(second, want) {
		t.Errorf("%s is what was handed in: %v", what, second)
	}
}

func TestAnswersAreNew(t *testing.T) {
	for _, w := range []int{16, 13} {
		asIs(t, "Unpack", []byte{0xA5, 0xFF, 0xFF}, func(b []byte) []int { l, _ := Unpack(b[:2], w); return l })
		asIs(t, "Turned", []byte{0xA5, 0xFF, 0xFF}, func(b []byte) []byte { x, _ := Turned(b[:2], w); return x })
	}
	asIs(t, "Turned", []byte{0x81}, func(b []byte) []byte { x, _ := Turned(b, 8); return x }) // as it was, and yet another one
	asIs(t, "Pack", []int{1, 0, 1, 1, 1, 1, 1, 1, 1}, func(l []int) []byte { b, _ := Pack(l); return b })
	asIs(t, "Runs", []int{1, 1, 0, 1, 0, 0}, Runs)
	asIs(t, "Runs", []int{0}, Runs)
	asIs(t, "Unrun", []int{0, 2, 1, 3}, Unrun)
	asIs(t, "Unrun", []int{1, 1}, Unrun)
}
