package raw

import (
	"bytes"
	"math"
	"slices"
	"testing"

	"chequer/api"
	"chequer/head"
	"chequer/token"
)

// The greatest of each field.
const (
	widest  = 4096
	highest = 65536
	deepest = 65535
)

// headOf is a head of a kind; of the kind 4 the greatest sample is 1.
func headOf(kind, w, h, maxval int) head.Head {
	if kind == 4 {
		maxval = 1
	}
	return head.Head{Kind: kind, W: w, H: h, Maxval: maxval}
}

// samplesOf is how many samples a pixel of a kind has.
func samplesOf(kind int) int {
	if kind == 6 {
		return 3
	}
	return 1
}

// bytesOf is how many bytes a sample of the kinds 5 and 6 has.
func bytesOf(maxval int) int {
	if maxval > 255 {
		return 2
	}
	return 1
}

// strideOf is how many bytes a row has.
func strideOf(h head.Head) int {
	if h.Kind == 4 {
		n := 0
		for 8*n < h.W {
			n++
		}
		return n
	}
	return h.W * samplesOf(h.Kind) * bytesOf(h.Maxval)
}

func gray(l ...int) []api.Pixel {
	var out []api.Pixel
	for _, n := range l {
		out = append(out, 1<<48+api.Pixel(n))
	}
	return out
}

func color(l ...int) []api.Pixel {
	var out []api.Pixel
	for a := range slices.Chunk(l, 3) {
		out = append(out, 3<<48+api.Pixel(a[0])<<32+api.Pixel(a[1])<<16+api.Pixel(a[2]))
	}
	return out
}

// pixels are a kind's, of these samples.
func pixels(kind int, l ...int) []api.Pixel {
	if kind == 6 {
		return color(l...)
	}
	return gray(l...)
}

// mixed are samples from 0 up to most, these two among them.
func mixed(n, most, seed int) []int {
	l := make([]int, n)
	for i := range l {
		l[i] = (seed*7919 + i*i*31 + i*104729) % (most + 1)
	}
	if n > 1 {
		l[seed%n], l[(seed+1)%n] = 0, most
	}
	return l
}

// bytesLike are bytes of every value, in no plain row.
func bytesLike(n, seed int) []byte {
	b := make([]byte, n)
	for i, s := range mixed(n, 255, seed) {
		b[i] = byte(s)
	}
	return b
}

// state is all that a reader told, and tells.
type state struct {
	rows   [][]api.Pixel
	status token.Status
	e      api.Errno
	left   int
}

func (s state) is(o state) bool {
	same := func(a, b []api.Pixel) bool { return slices.Equal(a, b) }
	return s.status == o.status && s.e == o.e && s.left == o.left && slices.EqualFunc(s.rows, o.rows, same)
}

func goesOn(left int, rows ...[]api.Pixel) state { return state{rows, token.More, api.OK, left} }

func over(rows ...[]api.Pixel) state { return state{rows, token.Over, api.OK, 0} }

func wrong(rows ...[]api.Pixel) state { return state{rows, token.Wrong, api.ErrSample, 0} }

func reader(t *testing.T, h head.Head) *Reader {
	t.Helper()
	r, e := New(h)
	if r == nil || e != api.OK {
		t.Fatalf("New(%v) = %v, %v", h, r, e)
	}
	return r
}

// asks adds what was told last to what was told ahead, and holds Rows, Error and Left against it, twice: to ask changes nothing.
func asks(t *testing.T, r *Reader, was state, row []api.Pixel, status token.Status) state {
	t.Helper()
	now := state{was.rows, status, r.Error(), r.Left()}
	if len(row) != 0 {
		now.rows = append(slices.Clone(was.rows), row)
	}
	for range 2 {
		if n, e, left := r.Rows(), r.Error(), r.Left(); n != len(now.rows) || e != now.e || left != now.left || (e != api.OK) != (status == token.Wrong) || (left != 0) != (status == token.More) {
			t.Errorf("Rows() = %d, Error() = %v, Left() = %d, of %v", n, e, left, now)
		}
	}
	return now
}

// told is a reader that was told bytes, and all that it told.
func told(t *testing.T, b []byte, h head.Head) (*Reader, state) {
	t.Helper()
	r := reader(t, h)
	now := asks(t, r, state{}, nil, token.More)
	for _, c := range b {
		row, status := r.Put(c)
		now = asks(t, r, now, row, status)
	}
	return r, now
}

// is holds what a reader that was told bytes told against what it should.
func is(t *testing.T, b []byte, h head.Head, want state) {
	t.Helper()
	if _, got := told(t, b, h); !got.is(want) {
		t.Errorf("%v, %v: %v, not %v", b, h, got, want)
	}
}

// rests holds that a reader that is over, or wrong, tells nothing more, whatever it is told.
func rests(t *testing.T, b []byte, h head.Head) {
	t.Helper()
	r, now := told(t, b, h)
	if now.status == token.More {
		t.Errorf("%v, %v: goes on", b, h)
	}
	for c := range 256 {
		row, status := r.Put(byte(c))
		if len(row) != 0 || status != now.status || r.Error() != now.e || r.Rows() != len(now.rows) || r.Left() != 0 {
			t.Errorf("behind %v: Put(%d) = %v, %v; Error() = %v, Rows() = %d, Left() = %d", now, c, row, status, r.Error(), r.Rows(), r.Left())
		}
	}
}

// reads holds what Read answers against what it should.
func reads(t *testing.T, b []byte, h head.Head, want []api.Pixel, e api.Errno) {
	t.Helper()
	if l, f := Read(b, h); !slices.Equal(l, want) || f != e {
		t.Errorf("Read(%v, %v) = %v, %v, not %v, %v", b, h, l, f, want, e)
	}
}

// What the chapter says of all bytes at once, by other means than byte by byte.

// rowOf is the pixels of a row's bytes.
func rowOf(b []byte, h head.Head) []api.Pixel {
	var samples []int
	if h.Kind == 4 {
		for x := range h.W {
			value := [...]byte{128, 64, 32, 16, 8, 4, 2, 1}[x%8]
			samples = append(samples, int(b[x/8]/value%2))
		}
		return gray(samples...)
	}
	for part := range slices.Chunk(b, bytesOf(h.Maxval)) {
		n := int(part[0])
		if len(part) == 2 {
			n = 256*n + int(part[1])
		}
		samples = append(samples, n)
	}
	return pixels(h.Kind, samples...)
}

// firstWrong is the place of the byte with which a raster's bytes are wrong: how many there are, if they are not.
func firstWrong(b []byte, h head.Head) int {
	if h.Kind == 4 {
		return len(b)
	}
	n := bytesOf(h.Maxval)
	for i := n - 1; i < len(b); i += n {
		sample := int(b[i])
		if n == 2 {
			sample += 256 * int(b[i-1])
		}
		if sample > h.Maxval {
			return i
		}
	}
	return len(b)
}

// after is how a reader stands that was told bytes.
func after(b []byte, h head.Head) state {
	stride := strideOf(h)
	b = b[:min(len(b), stride*h.H)]
	right := b[:firstWrong(b, h)]
	var rows [][]api.Pixel
	for row := range slices.Chunk(right, stride) {
		if len(row) == stride {
			rows = append(rows, rowOf(row, h))
		}
	}
	switch {
	case len(right) < len(b):
		return wrong(rows...)
	case len(rows) == h.H:
		return over(rows...)
	}
	return goesOn(stride*h.H-len(b), rows...)
}

// holds holds bytes, told and read, against what the chapter says of them.
func holds(t *testing.T, b []byte, h head.Head) {
	t.Helper()
	want := after(b, h)
	is(t, b, h, want)
	switch want.status {
	case token.Over:
		reads(t, b, h, slices.Concat(want.rows...), api.OK)
	case token.Wrong:
		reads(t, b, h, nil, api.ErrSample)
	case token.More:
		reads(t, b, h, nil, api.ErrShort)
	}
}

// beginnings holds all beginnings of bytes so.
func beginnings(t *testing.T, b []byte, h head.Head) {
	t.Helper()
	for n := range len(b) + 1 {
		holds(t, b[:n], h)
	}
}

// P9.1

// noHeads are heads that may not be, of each kind, of other kinds, and of none.
func noHeads() []head.Head {
	l := []head.Head{{}, {W: 1, H: 1, Maxval: 1}}
	for kind := 1; kind <= 6; kind++ {
		for _, n := range []int{0, -1, math.MinInt, widest + 1, math.MaxInt} {
			l = append(l, headOf(kind, n, 1, 1))
		}
		for _, n := range []int{0, -1, math.MinInt, highest + 1, math.MaxInt} {
			l = append(l, headOf(kind, 1, n, 1))
		}
		for _, n := range []int{0, -1, math.MinInt, deepest + 1, math.MaxInt} {
			l = append(l, head.Head{Kind: kind, W: 1, H: 1, Maxval: n})
		}
		l = append(l, head.Head{Kind: kind}, head.Head{Kind: kind, W: -1, H: -1, Maxval: 1})
	}
	for _, kind := range []int{1, 4} {
		l = append(l, head.Head{Kind: kind, W: 1, H: 1, Maxval: 2}, head.Head{Kind: kind, W: 1, H: 1, Maxval: 255})
	}
	for _, kind := range []int{0, -1, 7, 8, 52, 53, 54, math.MinInt, math.MaxInt} {
		l = append(l, head.Head{Kind: kind, W: 1, H: 1, Maxval: 1})
	}
	return l
}

// plainHeads are heads that may be, of the kinds that are not raw.
func plainHeads() []head.Head {
	l := []head.Head{headOf(2, 2, 1, 255), headOf(3, 2, 1, deepest)}
	for kind := 1; kind <= 3; kind++ {
		l = append(l, headOf(kind, 1, 1, 1), headOf(kind, 8, 2, 1))
	}
	return l
}

func TestNewRefuses(t *testing.T) {
	for _, h := range append(noHeads(), plainHeads()...) {
		if r, e := New(h); r != nil || e != api.ErrArg {
			t.Errorf("New(%v) = %v, %v", h, r, e)
		}
	}
}

func TestNewWasToldNothing(t *testing.T) {
	for _, x := range []struct {
		h    head.Head
		left int
	}{
		{headOf(4, 1, 1, 1), 1}, {headOf(4, 8, 1, 1), 1}, {headOf(4, 9, 1, 1), 2}, {headOf(4, 9, 3, 1), 6},
		{headOf(4, widest, highest, 1), 512 * 65536}, {headOf(4, 4089, 1, 1), 512}, {headOf(4, 4088, 1, 1), 511}, {headOf(4, 1, highest, 1), 65536},
		{headOf(5, 1, 1, 1), 1}, {headOf(5, 3, 2, 255), 6}, {headOf(5, 3, 2, 256), 12},
		{headOf(5, widest, highest, 255), 4096 * 65536}, {headOf(5, widest, highest, deepest), 8192 * 65536},
		{headOf(6, 1, 1, 1), 3}, {headOf(6, 3, 2, 255), 18}, {headOf(6, 3, 2, 256), 36},
		{headOf(6, widest, highest, 255), 12288 * 65536}, {headOf(6, widest, highest, deepest), 24576 * 65536},
	} {
		is(t, nil, x.h, goesOn(x.left))
		reads(t, nil, x.h, nil, api.ErrShort)
		reads(t, []byte{}, x.h, nil, api.ErrShort)
	}
}

func TestExample(t *testing.T) {
	h := headOf(5, 2, 1, 255)
	is(t, nil, h, goesOn(2))
	is(t, []byte{7}, h, goesOn(1))
	is(t, []byte{7, 9}, h, over(gray(7, 9)))
	reads(t, []byte{7, 9}, h, gray(7, 9), api.OK)
}

func TestRowsOfBits(t *testing.T) {
	for _, x := range []struct {
		b    []byte
		w, h int
		want state
	}{
		{[]byte{160}, 3, 1, over(gray(1, 0, 1))},
		{[]byte{191}, 3, 1, over(gray(1, 0, 1))},
		{[]byte{128}, 1, 1, over(gray(1))},
		{[]byte{127}, 1, 1, over(gray(0))},
		{[]byte{127, 128}, 1, 2, over(gray(0), gray(1))},
		{[]byte{0xC5}, 8, 1, over(gray(1, 1, 0, 0, 0, 1, 0, 1))},
		{[]byte{0xC5}, 9, 1, goesOn(1)},
		{[]byte{0xC5, 0x7F}, 9, 1, over(gray(1, 1, 0, 0, 0, 1, 0, 1, 0))},
		{[]byte{0xC5, 0x80}, 9, 1, over(gray(1, 1, 0, 0, 0, 1, 0, 1, 1))},
		{[]byte{0xFF, 0x3F, 0}, 10, 2, goesOn(1, gray(1, 1, 1, 1, 1, 1, 1, 1, 0, 0))},
		{[]byte{0xFF, 0x3F, 0, 0xFF}, 10, 2, over(gray(1, 1, 1, 1, 1, 1, 1, 1, 0, 0), gray(0, 0, 0, 0, 0, 0, 0, 0, 1, 1))},
		{[]byte{1, 254}, 16, 1, over(gray(0, 0, 0, 0, 0, 0, 0, 1, 1, 1, 1, 1, 1, 1, 1, 0))},
	} {
		is(t, x.b, headOf(4, x.w, x.h, 1), x.want)
	}
}

func TestRowsOfSamples(t *testing.T) {
	for _, x := range []struct {
		b    []byte
		h    head.Head
		want state
	}{
		{[]byte{0, 1}, headOf(5, 1, 2, 1), over(gray(0), gray(1))},
		{[]byte{0, 2}, headOf(5, 1, 2, 1), wrong(gray(0))},
		{[]byte{1, 2, 3, 15}, headOf(5, 2, 2, 15), over(gray(1, 2), gray(3, 15))},
		{[]byte{1, 2, 3}, headOf(5, 2, 2, 15), goesOn(1, gray(1, 2))},
		{[]byte{1, 2, 3, 16}, headOf(5, 2, 2, 15), wrong(gray(1, 2))},
		{[]byte{1, 16}, headOf(5, 2, 2, 15), wrong()},
		{[]byte{255, 0}, headOf(5, 2, 1, 255), over(gray(255, 0))},
		{[]byte{1, 44, 0, 7}, headOf(5, 2, 1, 300), over(gray(300, 7))},
		{[]byte{1, 44, 0}, headOf(5, 2, 1, 300), goesOn(1)},
		{[]byte{1, 45}, headOf(5, 2, 1, 300), wrong()},
		{[]byte{255}, headOf(5, 2, 1, 300), goesOn(3)},
		{[]byte{255, 0}, headOf(5, 2, 1, 300), wrong()},
		{[]byte{1, 2, 1, 2, 3, 4}, headOf(5, 1, 3, deepest), over(gray(258), gray(258), gray(772))},
		{[]byte{1, 2, 3}, headOf(6, 1, 1, 3), over(color(1, 2, 3))},
		{[]byte{1, 2, 3, 4, 5, 6}, headOf(6, 2, 1, 9), over(color(1, 2, 3, 4, 5, 6))},
		{[]byte{1, 2, 3, 4, 5}, headOf(6, 1, 2, 9), goesOn(1, color(1, 2, 3))},
		{[]byte{1, 2, 3, 4, 5, 6}, headOf(6, 1, 2, 9), over(color(1, 2, 3), color(4, 5, 6))},
		{[]byte{1, 2, 3, 4, 5, 10}, headOf(6, 1, 2, 9), wrong(color(1, 2, 3))},
		{[]byte{0, 1, 0, 2, 1, 44}, headOf(6, 1, 1, 300), over(color(1, 2, 300))},
		{[]byte{0, 1, 0, 2, 1, 45}, headOf(6, 1, 1, 300), wrong()},
	} {
		is(t, x.b, x.h, x.want)
	}
}

// Each of the 256 bytes at each place, and the spare bits among them.
func TestEveryByteOfKind4(t *testing.T) {
	for _, w := range []int{1, 2, 3, 4, 5, 6, 7, 8, 9, 10, 13, 15, 16, 17, 23, 24, 25, 31, 32, 33} {
		for _, rows := range []int{1, 2, 3} {
			h := headOf(4, w, rows, 1)
			b := bytesLike(strideOf(h)*rows, w)
			for i := range b {
				other := slices.Clone(b)
				for c := range 256 {
					other[i] = byte(c)
					holds(t, other[:i+1], h)
					holds(t, other, h)
				}
			}
		}
	}
}

func TestSpareBitsChangeNothing(t *testing.T) {
	for w := 1; w <= 40; w++ {
		h := headOf(4, w, 2, 1)
		stride := strideOf(h)
		spare := byte(1<<(8*stride-w) - 1)
		b := bytesLike(2*stride, w)
		none, all := slices.Clone(b), slices.Clone(b)
		for _, i := range []int{stride - 1, 2*stride - 1} {
			none[i] &^= spare
			all[i] |= spare
		}
		want := after(b, h)
		is(t, none, h, want)
		is(t, all, h, want)
		reads(t, none, h, slices.Concat(want.rows...), api.OK)
		reads(t, all, h, slices.Concat(want.rows...), api.OK)
	}
}

// Each of the 256 bytes at each place of a sample, of rows of one pixel and of more.
func TestEveryByteOfSamples(t *testing.T) {
	for _, kind := range []int{5, 6} {
		for _, most := range []int{1, 15, 254, 255, 256, 257, 300, 65280, 65534, deepest} {
			for _, size := range [][2]int{{1, 1}, {2, 1}, {1, 2}, {2, 2}} {
				h := headOf(kind, size[0], size[1], most)
				b, _ := Write(pixels(kind, mixed(size[0]*size[1]*samplesOf(kind), most, 3)...), h)
				if len(b) != strideOf(h)*h.H {
					t.Fatalf("%v: %d bytes", h, len(b))
				}
				for i := range b {
					other := slices.Clone(b)
					for c := range 256 {
						other[i] = byte(c)
						holds(t, other[:i+1], h)
						holds(t, other, h)
					}
				}
			}
		}
	}
}

func TestEverySampleOfOneByte(t *testing.T) {
	for most := 1; most <= 255; most++ {
		h := headOf(5, 1, 1, most)
		for n := range 256 {
			want := over(gray(n))
			if n > most {
				want = wrong()
			}
			is(t, []byte{byte(n)}, h, want)
		}
	}
}

func TestEverySampleOfTwoBytes(t *testing.T) {
	for _, most := range []int{256, 257, 511, 512, 4660, 65280, 65534, deepest} {
		h := headOf(5, 1, 1, most)
		for n := range 1 << 16 {
			want := over(gray(n))
			if n > most {
				want = wrong()
			}
			is(t, []byte{byte(n / 256), byte(n % 256)}, h, want)
		}
	}
}

// A high byte that alone is above the greatest sample's is not wrong yet.
func TestASampleIsWrongWithItsLastByte(t *testing.T) {
	for _, most := range []int{256, 257, 511, 512, 65279} {
		for high := most/256 + 1; high < 256; high++ {
			h := headOf(5, 1, 2, most)
			b := []byte{1, 0, byte(high)}
			is(t, b, h, goesOn(1, gray(256)))
			reads(t, b, h, nil, api.ErrShort)
			for _, low := range []byte{0, 1, 255} {
				is(t, append(b, low), h, wrong(gray(256)))
				reads(t, append(b, low), h, nil, api.ErrSample)
			}
		}
	}
}

// Of each of a pixel's three samples: the wrong one alone, at each pixel.
func TestEachOfThreeSamples(t *testing.T) {
	for _, most := range []int{1, 9, 254, 256, 300, 65534} {
		for _, size := range [][2]int{{1, 1}, {3, 1}, {1, 3}, {2, 2}} {
			h := headOf(6, size[0], size[1], most)
			n := 3 * size[0] * size[1]
			for i := range n {
				for _, above := range []int{most + 1, most} {
					samples := mixed(n, most, i)
					samples[i] = above
					var b []byte
					for _, s := range samples {
						if most > 255 {
							b = append(b, byte(s/256))
						}
						b = append(b, byte(s%256))
					}
					want := over(slices.Collect(slices.Chunk(color(samples...), h.W))...)
					if above > most {
						want = wrong(want.rows[:i/(3*h.W)]...)
						is(t, b[:bytesOf(most)*(i+1)], h, want)
					}
					is(t, b, h, want)
					beginnings(t, b, h)
				}
			}
		}
	}
}

// The greatest sample itself, and the one above it, as first and as last one.
func TestTheGreatestSample(t *testing.T) {
	for _, kind := range []int{5, 6} {
		for most := 1; most < deepest; most += 1 + most/7 {
			for _, most := range []int{most, 255, 256} {
				h := headOf(kind, 1, 1, most)
				n := samplesOf(kind)
				for i := range n {
					for _, s := range []int{0, most, most + 1} {
						if s >= 1<<(8*bytesOf(most)) {
							continue
						}
						samples := make([]int, n)
						samples[i] = s
						var b []byte
						for _, s := range samples {
							b = append(b, []byte{byte(s / 256), byte(s % 256)}[2-bytesOf(most):]...)
						}
						if s > most {
							is(t, b, h, wrong())
						} else {
							is(t, b, h, over(pixels(kind, samples...)))
						}
					}
				}
			}
		}
	}
}

func TestBehindTheLastByte(t *testing.T) {
	for kind := 4; kind <= 6; kind++ {
		for _, size := range [][2]int{{1, 1}, {9, 1}, {1, 2}, {8, 2}, {3, 3}} {
			for _, most := range []int{1, 255, 256, deepest} {
				h := headOf(kind, size[0], size[1], most)
				b, _ := Write(pixels(kind, mixed(size[0]*size[1]*samplesOf(kind), h.Maxval, 2)...), h)
				rests(t, b, h)
			}
		}
	}
}

func TestBehindAWrongByte(t *testing.T) {
	for _, x := range []struct {
		b []byte
		h head.Head
	}{
		{[]byte{2}, headOf(5, 1, 1, 1)},
		{[]byte{1, 0, 0, 255}, headOf(5, 2, 3, 1)},
		{[]byte{1, 0, 0, 1, 255}, headOf(5, 2, 3, 1)},
		{[]byte{1, 0, 0, 1, 0, 255}, headOf(5, 2, 3, 1)},
		{[]byte{1, 1}, headOf(5, 1, 1, 256)},
		{[]byte{1, 0, 1, 0, 255, 255}, headOf(5, 2, 2, 256)},
		{[]byte{10}, headOf(6, 2, 2, 9)},
		{[]byte{1, 2, 3, 4, 10}, headOf(6, 2, 2, 9)},
		{[]byte{1, 2, 3, 4, 5, 6, 7, 8, 10}, headOf(6, 2, 2, 9)},
		{[]byte{0, 1, 2, 0}, headOf(6, 1, 1, 300)},
	} {
		rests(t, x.b, x.h)
		reads(t, x.b, x.h, nil, api.ErrSample)
		reads(t, append(slices.Clone(x.b), make([]byte, 40)...), x.h, nil, api.ErrSample)
		beginnings(t, append(slices.Clone(x.b), 0, 1, 255, 9), x.h)
	}
}

func TestLeft(t *testing.T) {
	for kind := 4; kind <= 6; kind++ {
		for _, most := range []int{1, 255, 256, deepest} {
			for _, size := range [][2]int{{1, 1}, {7, 1}, {1, 7}, {17, 3}} {
				h := headOf(kind, size[0], size[1], most)
				n := strideOf(h) * h.H
				r := reader(t, h)
				for i := range n {
					if r.Left() != n-i {
						t.Errorf("%v: behind %d bytes Left() = %d, not %d", h, i, r.Left(), n-i)
					}
					r.Put(0)
				}
				if r.Left() != 0 {
					t.Errorf("%v: over, Left() = %d", h, r.Left())
				}
			}
		}
	}
}

func TestReadersKnowNothingOfOneAnother(t *testing.T) {
	h := headOf(5, 2, 1, 300)
	a, b := reader(t, h), reader(t, h)
	for _, c := range []byte{0, 12, 1} {
		a.Put(c)
	}
	b.Put(1)
	b.Put(45)
	if row, status := a.Put(2); !slices.Equal(row, gray(12, 258)) || status != token.Over || a.Error() != api.OK || a.Rows() != 1 {
		t.Error(row, status, a.Error(), a.Rows())
	}
	if b.Error() != api.ErrSample || b.Rows() != 0 || b.Left() != 0 {
		t.Error(b.Error(), b.Rows(), b.Left())
	}
	is(t, []byte{0, 5, 0, 6}, h, over(gray(5, 6)))
}

// P9.2

func TestReadRefuses(t *testing.T) {
	for _, h := range append(noHeads(), plainHeads()...) {
		for _, b := range [][]byte{nil, {}, {0}, {1, 1, 1, 1}, {255, 255, 255, 255, 255, 255}} {
			reads(t, b, h, nil, api.ErrArg)
		}
	}
}

func TestReadOfMuchThatIsNotThere(t *testing.T) {
	for kind := 4; kind <= 6; kind++ {
		for _, most := range []int{254, 300} {
			h := headOf(kind, widest, highest, most)
			reads(t, []byte{0, 1, 0, 1, 0, 1}, h, nil, api.ErrShort)
			if kind != 4 {
				reads(t, []byte{0, 1, 0, 1, 255, 255}, h, nil, api.ErrSample)
			}
		}
	}
}

func TestReadLeavesWhatIsBehind(t *testing.T) {
	for _, behind := range [][]byte{nil, {0}, {1}, {255}, {255, 255, 255, 255, 255, 255, 255}, []byte("P5 1 1 1 ")} {
		reads(t, append([]byte{0xC5, 0x80}, behind...), headOf(4, 9, 1, 1), gray(1, 1, 0, 0, 0, 1, 0, 1, 1), api.OK)
		reads(t, append([]byte{10, 20}, behind...), headOf(5, 1, 2, 99), gray(10, 20), api.OK)
		reads(t, append([]byte{1, 44, 0, 2}, behind...), headOf(5, 2, 1, 300), gray(300, 2), api.OK)
		reads(t, append([]byte{10, 20, 30}, behind...), headOf(6, 1, 1, 99), color(10, 20, 30), api.OK)
		reads(t, append([]byte{0, 20, 1, 0, 1, 1}, behind...), headOf(6, 1, 1, 257), color(20, 256, 257), api.OK)
	}
}

// What is met first is why there is none.
func TestWhatIsMetFirst(t *testing.T) {
	five := headOf(5, 2, 2, 15)
	reads(t, []byte{1, 2, 3}, five, nil, api.ErrShort)
	reads(t, []byte{16}, five, nil, api.ErrSample)
	reads(t, []byte{1, 2, 16}, five, nil, api.ErrSample)
	reads(t, []byte{1, 2, 3, 16}, five, nil, api.ErrSample)
	reads(t, []byte{1, 2, 3, 15, 16}, five, gray(1, 2, 3, 15), api.OK)
	two := headOf(5, 2, 1, 300)
	reads(t, []byte{2}, two, nil, api.ErrShort)
	reads(t, []byte{2, 0}, two, nil, api.ErrSample)
	reads(t, []byte{1, 0, 2}, two, nil, api.ErrShort)
	reads(t, []byte{1, 0, 2, 0}, two, nil, api.ErrSample)
	reads(t, []byte{1, 0, 1, 0, 2, 0}, two, gray(256, 256), api.OK)
}

func TestWhatIsCutOff(t *testing.T) {
	for kind := 4; kind <= 6; kind++ {
		for _, most := range []int{1, 200, 255, 256, 300, deepest} {
			for _, size := range [][2]int{{1, 1}, {1, 4}, {4, 1}, {3, 4}, {17, 3}} {
				h := headOf(kind, size[0], size[1], most)
				l := pixels(kind, mixed(size[0]*size[1]*samplesOf(kind), h.Maxval, 5)...)
				b, _ := Write(l, h)
				beginnings(t, append(slices.Clone(b), 255, 0, 255), h)
				for i := range b {
					reads(t, b[:i], h, nil, api.ErrShort)
				}
				reads(t, b, h, l, api.OK)
			}
		}
	}
}

func writes(t *testing.T, l []api.Pixel, h head.Head, want ...byte) {
	t.Helper()
	if b, e := Write(l, h); !bytes.Equal(b, want) || e != api.OK {
		t.Errorf("Write(%v, %v) = %v, %v, not %v", l, h, b, e, want)
	}
}

func TestWriteOfBits(t *testing.T) {
	writes(t, gray(0), headOf(4, 1, 1, 1), 0)
	writes(t, gray(1), headOf(4, 1, 1, 1), 128)
	writes(t, gray(1, 0, 1), headOf(4, 3, 1, 1), 160)
	writes(t, gray(1, 0, 1), headOf(4, 1, 3, 1), 128, 0, 128)
	writes(t, gray(1, 1, 1, 1, 1, 1, 1, 1), headOf(4, 8, 1, 1), 255)
	writes(t, gray(1, 1, 1, 1, 1, 1, 1, 1), headOf(4, 4, 2, 1), 240, 240)
	writes(t, gray(1, 1, 1, 1, 1, 1, 1, 1, 1), headOf(4, 9, 1, 1), 255, 128)
	writes(t, gray(1, 1, 1, 1, 1, 1, 1, 1, 1), headOf(4, 3, 3, 1), 224, 224, 224)
	writes(t, gray(0, 0, 0, 0, 0, 0, 0, 1, 1, 0, 0, 0, 0, 0, 0, 0, 0, 1), headOf(4, 9, 2, 1), 1, 128, 0, 128)
}

func TestWriteOfSamples(t *testing.T) {
	writes(t, gray(0, 1, 255, 128), headOf(5, 4, 1, 255), 0, 1, 255, 128)
	writes(t, gray(0, 1, 255, 128), headOf(5, 2, 2, 255), 0, 1, 255, 128)
	writes(t, gray(0, 1, 255, 128), headOf(5, 1, 4, 256), 0, 0, 0, 1, 0, 255, 0, 128)
	writes(t, gray(256, 300, 65535, 4660), headOf(5, 2, 2, deepest), 1, 0, 1, 44, 255, 255, 18, 52)
	writes(t, gray(1, 0), headOf(5, 2, 1, 1), 1, 0)
	writes(t, color(1, 2, 3, 253, 254, 255), headOf(6, 2, 1, 255), 1, 2, 3, 253, 254, 255)
	writes(t, color(1, 2, 3, 253, 254, 255), headOf(6, 1, 2, 256), 0, 1, 0, 2, 0, 3, 0, 253, 0, 254, 0, 255)
	writes(t, color(1, 2, 300), headOf(6, 1, 1, 300), 0, 1, 0, 2, 1, 44)
	writes(t, color(4660, 65535, 256), headOf(6, 1, 1, deepest), 18, 52, 255, 255, 1, 0)
}

func noWrite(t *testing.T, l []api.Pixel, h head.Head) {
	t.Helper()
	if b, e := Write(l, h); len(b) != 0 || e != api.ErrArg {
		t.Errorf("Write(%v, %v) = %v, %v", l, h, b, e)
	}
}

func TestWriteRefusesHeads(t *testing.T) {
	for _, h := range append(noHeads(), plainHeads()...) {
		for _, l := range [][]api.Pixel{nil, {}, gray(1), gray(1, 1), color(1, 1, 1), color(1, 1, 1, 1, 1, 1), {7}, gray(make([]int, 16)...), color(make([]int, 48)...)} {
			noWrite(t, l, h)
		}
	}
}

func TestWriteRefusesPixels(t *testing.T) {
	for kind := 4; kind <= 6; kind++ {
		for _, most := range []int{1, 15, 255, 256, 300, 65534} {
			h := headOf(kind, 2, 2, most)
			most := h.Maxval
			fits := pixels(kind, slices.Repeat([]int{1}, 4*samplesOf(kind))...)
			if b, e := Write(fits, h); len(b) == 0 || e != api.OK {
				t.Errorf("Write(%v, %v) = %v, %v", fits, h, b, e)
			}
			for n := range 4 {
				noWrite(t, fits[:n], h)
			}
			noWrite(t, append(slices.Clone(fits), fits...), h)
			noWrite(t, append(slices.Clone(fits), fits[0]), h)
			noWrite(t, fits, headOf(kind, widest, highest, 15))
			above := most + 1
			others := slices.Concat([]api.Pixel{0, 1, 7, 1<<48 - 1, 1<<48 + 1<<16, 2<<48 + 1, 4 << 48, math.MaxUint64}, gray(above), color(above, 0, 0, 0, above, 0, 0, 0, above))
			if kind == 6 {
				others = append(others, gray(1)...)
			} else {
				others = append(others, color(1, 1, 1)...)
			}
			for i := range fits {
				for _, p := range others {
					l := slices.Clone(fits)
					l[i] = p
					noWrite(t, l, h)
				}
			}
		}
	}
}

func TestStride(t *testing.T) {
	for _, x := range []struct {
		h    head.Head
		want int
	}{
		{headOf(4, 1, 1, 1), 1}, {headOf(4, 7, 5, 1), 1}, {headOf(4, 8, 5, 1), 1}, {headOf(4, 9, 5, 1), 2}, {headOf(4, 16, 1, 1), 2}, {headOf(4, 17, 1, 1), 3},
		{headOf(4, widest, highest, 1), 512}, {headOf(4, widest-7, 1, 1), 512}, {headOf(4, widest-8, 1, 1), 511},
		{headOf(5, 1, 1, 1), 1}, {headOf(5, 5, 7, 255), 5}, {headOf(5, 5, 7, 256), 10}, {headOf(5, widest, highest, 255), 4096}, {headOf(5, widest, highest, deepest), 8192},
		{headOf(6, 1, 1, 1), 3}, {headOf(6, 5, 7, 255), 15}, {headOf(6, 5, 7, 256), 30}, {headOf(6, widest, highest, 255), 12288}, {headOf(6, widest, highest, deepest), 24576},
		{headOf(1, 5, 5, 1), 0}, {headOf(2, 5, 5, 5), 0}, {headOf(3, 5, 5, 300), 0},
		{headOf(1, widest, highest, 1), 0}, {headOf(2, widest, highest, deepest), 0}, {headOf(3, widest, highest, deepest), 0},
	} {
		if n := Stride(x.h); n != x.want {
			t.Errorf("Stride(%v) = %d, not %d", x.h, n, x.want)
		}
	}
	for kind := 4; kind <= 6; kind++ {
		for w := 1; w <= widest; w++ {
			for _, most := range []int{1, 255, 256, deepest} {
				h := headOf(kind, w, 3, most)
				if n := Stride(h); n != strideOf(h) || 3*n != head.Size(h) {
					t.Errorf("Stride(%v) = %d", h, n)
				}
			}
		}
	}
}

// Nothing is promised of these, but that it ends.
func TestStrideOfHeadsThatMayNotBe(t *testing.T) {
	for _, h := range noHeads() {
		if n := Stride(h); n != 0 {
			t.Errorf("Stride(%v) = %d", h, n)
		}
	}
}

// P9.3

// someRasters tells rasters of all kinds and some sizes.
func someRasters(yield func(l []api.Pixel, h head.Head)) {
	for kind := 4; kind <= 6; kind++ {
		for _, most := range []int{1, 9, 254, 255, 256, 257, 65534, deepest} {
			for _, w := range []int{1, 2, 3, 7, 8, 9, 15, 16, 17, 63, 64, 65} {
				for _, rows := range []int{1, 2, 3, 7} {
					h := headOf(kind, w, rows, most)
					yield(pixels(kind, mixed(w*rows*samplesOf(kind), h.Maxval, w+rows)...), h)
				}
			}
		}
	}
}

func TestWhatIsWrittenIsReadAsItWas(t *testing.T) {
	someRasters(func(l []api.Pixel, h head.Head) {
		b, e := Write(l, h)
		if e != api.OK || len(b) != strideOf(h)*h.H {
			t.Fatalf("Write(%v, %v): %d bytes, %v", l, h, len(b), e)
		}
		for _, behind := range [][]byte{nil, {0}, {255}, b} {
			reads(t, slices.Concat(b, behind), h, l, api.OK)
		}
		rows := slices.Collect(slices.Chunk(l, h.W))
		is(t, b, h, over(rows...))
		for y := range h.H {
			n := (y + 1) * strideOf(h)
			is(t, b[:n-1], h, goesOn(len(b)-n+1, rows[:y]...))
		}
	})
}

// What is read is written as it was, but for spare bits.
func TestWhatIsReadIsWrittenAsItWas(t *testing.T) {
	for kind := 4; kind <= 6; kind++ {
		for _, most := range []int{255, deepest} {
			for w := 1; w <= 33; w++ {
				h := headOf(kind, w, 4, most)
				b := bytesLike(4*strideOf(h), w)
				l, e := Read(b, h)
				if e != api.OK {
					t.Fatalf("Read(%v, %v): %v", b, h, e)
				}
				if kind == 4 {
					for y := range 4 {
						last := (y+1)*strideOf(h) - 1
						spare := 8*strideOf(h) - w
						b[last] = b[last] >> spare << spare
					}
				}
				writes(t, l, h, b...)
			}
		}
	}
}

func TestTheGreatestRows(t *testing.T) {
	for kind := 4; kind <= 6; kind++ {
		for _, h := range []head.Head{headOf(kind, widest, 2, deepest), headOf(kind, widest-1, 2, 255), headOf(kind, 1, highest, deepest)} {
			l := pixels(kind, mixed(h.W*h.H*samplesOf(kind), h.Maxval, 3)...)
			b, e := Write(l, h)
			back, f := Read(b, h)
			if e != api.OK || f != api.OK || !slices.Equal(back, l) || len(b) != strideOf(h)*h.H {
				t.Errorf("%v: %v, %v", h, e, f)
			}
			if back, f = Read(b[:len(b)-1], h); len(back) != 0 || f != api.ErrShort {
				t.Errorf("%v: cut off: %d, %v", h, len(back), f)
			}
		}
	}
}

// R4

func TestArgumentsAreLeft(t *testing.T) {
	for kind := 4; kind <= 6; kind++ {
		room := pixels(kind, mixed(9*samplesOf(kind), 1, 4)...)
		room = append(room, 7, math.MaxUint64)
		were := slices.Clone(room)
		for n := range room {
			for w := 1; w <= 3; w++ {
				for _, most := range []int{9, 300} {
					Write(room[:n], headOf(kind, w, 3, most))
				}
			}
		}
		if !slices.Equal(room, were) {
			t.Error(room, were)
		}
		b := bytesLike(40, 3)
		bytesWere := slices.Clone(b)
		for n := range b {
			for w := 1; w <= 3; w++ {
				for _, most := range []int{9, 255, 300, deepest} {
					Read(b[:n], headOf(kind, w, 3, most))
				}
			}
		}
		if !bytes.Equal(b, bytesWere) {
			t.Error(b, bytesWere)
		}
	}
}

// grown writes over a list, and over its spare room.
func grown[T api.Pixel | byte](l []T) {
	l = l[:cap(l)]
	for i := range l {
		l[i] = 77
	}
}

func TestRowsStandForThemselves(t *testing.T) {
	for kind := 4; kind <= 6; kind++ {
		for _, w := range []int{1, 2, 3, 5, 8, 9, 70} {
			for _, most := range []int{9, 300} {
				h := headOf(kind, w, 5, most)
				want := pixels(kind, mixed(w*5*samplesOf(kind), h.Maxval, 2)...)
				b, _ := Write(want, h)
				r := reader(t, h)
				var rows, were [][]api.Pixel
				for _, c := range b {
					if row, _ := r.Put(c); len(row) != 0 {
						rows, were = append(rows, row), append(were, slices.Clone(row))
						if len(rows)%2 == 0 {
							grown(row) // changes no row ahead, and none behind
						}
					}
				}
				if got := slices.Concat(were...); !slices.Equal(got, want) {
					t.Errorf("%v: %v, not %v", h, got, want)
				}
				for i, row := range rows {
					if i%2 == 0 && !slices.Equal(row, were[i]) {
						t.Errorf("%v: row %d is %v, not %v", h, i, row, were[i])
					}
				}
			}
		}
	}
}

func TestWhatIsAnsweredIsNew(t *testing.T) {
	someRasters(func(l []api.Pixel, h head.Head) {
		b, _ := Write(l, h)
		other, _ := Write(l, h)
		grown(b)
		pixels, _ := Read(other, h)
		again, _ := Read(other, h)
		grown(pixels)
		if !slices.Equal(again, l) {
			t.Errorf("%v: %v, not %v", h, again, l)
		}
		writes(t, l, h, other...)
	})
}

// What was told is kept nowhere: bytes that change behind change nothing.
func TestBytesAreNotKept(t *testing.T) {
	h := headOf(5, 2, 2, 300)
	b := []byte{1, 0, 0, 5, 0, 6, 1, 2}
	l, _ := Read(b, h)
	grown(b)
	if want := gray(256, 5, 6, 258); !slices.Equal(l, want) {
		t.Error(l, want)
	}
	from := gray(256, 5, 6, 258)
	b, _ = Write(from, h)
	grown(from)
	if !bytes.Equal(b, []byte{1, 0, 0, 5, 0, 6, 1, 2}) {
		t.Error(b)
	}
}
