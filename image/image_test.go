package image

import (
	"bytes"
	"math"
	"slices"
	"strconv"
	"strings"
	"testing"

	"chequer/api"
	"chequer/head"
	"chequer/rect"
)

// The greatest of each field, and of a matrix.
const (
	widest  = 4096
	highest = 65536
	deepest = 65535
	most    = 1 << 24
)

func gray(l ...int) []api.Pixel {
	var out []api.Pixel
	for _, n := range l {
		out = append(out, 1<<48+api.Pixel(n))
	}
	return out
}

func color(l ...int) []api.Pixel {
	var out []api.Pixel
	for a := range slices.Chunk(l, 3) {
		out = append(out, 3<<48+api.Pixel(a[0])<<32+api.Pixel(a[1])<<16+api.Pixel(a[2]))
	}
	return out
}

// of is an image of pixels, as high as there are rows of them.
func of(channels, maxval, w int, l []api.Pixel) Image {
	return Image{api.Format{Channels: channels, Maxval: maxval}, rect.Matrix{W: w, H: len(l) / w, L: l}}
}

// grays is an image of one sample, colors one of three.
func grays(maxval, w int, l ...int) Image  { return of(1, maxval, w, gray(l...)) }
func colors(maxval, w int, l ...int) Image { return of(3, maxval, w, color(l...)) }

// mixed are samples from 0 up to maxval, these two among them.
func mixed(n, maxval, seed int) []int {
	l := make([]int, n)
	for i := range l {
		l[i] = (seed*7919 + i*i*31 + i*104729) % (maxval + 1)
	}
	if n > 1 {
		l[seed%n], l[(seed+1)%n] = 0, maxval
	}
	return l
}

// sized is an image of mixed samples.
func sized(channels, maxval, w, h, seed int) Image {
	l := mixed(channels*w*h, maxval, seed)
	if channels == 3 {
		return colors(maxval, w, l...)
	}
	return grays(maxval, w, l...)
}

// samples are those of a pixel of a format.
func samples(p api.Pixel, f api.Format) []int {
	if f.Channels == 3 {
		return []int{int(p >> 32 & 65535), int(p >> 16 & 65535), int(p & 65535)}
	}
	return []int{int(p & 65535)}
}

// many are images of many formats and sides.
func many() []Image {
	var l []Image
	for _, channels := range []int{1, 3} {
		for _, maxval := range []int{1, 2, 9, 254, 255, 256, 300, deepest} {
			for i, size := range [][2]int{{1, 1}, {2, 1}, {1, 2}, {3, 2}, {8, 1}, {9, 2}, {71, 1}} {
				l = append(l, sized(channels, maxval, size[0], size[1], i))
			}
		}
	}
	return l
}

// broken are images that may not be, of one format and of the other.
func broken() []Image {
	good := grays(9, 2, 1, 2, 3, 4)
	l := []Image{
		{}, {Format: good.Format}, {M: good.M},
		of(1, 0, 2, gray(0, 0)), of(1, -1, 2, gray(0, 0)), of(1, math.MinInt, 2, gray(0, 0)),
		of(1, deepest+1, 2, gray(0, 0)), of(1, math.MaxInt, 2, gray(0, 0)),
		of(0, 9, 2, gray(0, 0)), of(2, 9, 2, gray(0, 0)), of(4, 9, 2, gray(0, 0)), of(-1, 9, 2, gray(0, 0)),
		of(math.MinInt, 9, 2, gray(0, 0)), of(math.MaxInt, 9, 2, gray(0, 0)),
		of(3, 9, 2, gray(1, 2)), of(1, 9, 2, color(1, 2, 3, 4, 5, 6)), of(3, 9, 2, append(color(1, 2, 3), gray(1)...)),
		of(1, 9, 2, []api.Pixel{0, 1}), of(1, 9, 1, []api.Pixel{1}), of(1, 9, 1, []api.Pixel{2 << 48}), of(1, 9, 1, []api.Pixel{math.MaxUint64}),
		of(1, deepest, 1, []api.Pixel{1<<48 + 65536}), of(1, deepest, 1, []api.Pixel{1<<48 + 1<<32}), of(3, deepest, 1, []api.Pixel{4 << 48}),
	}
	for i := range 4 {
		m := grays(9, 2, 9, 9, 9, 9)
		m.M.L[i]++
		l = append(l, m)
	}
	for i := range 6 {
		samples := []int{9, 9, 9, 9, 9, 9}
		samples[i]++
		l = append(l, colors(9, 1, samples...))
	}
	for _, side := range [][2]int{{0, 0}, {0, 4}, {4, 0}, {-2, -2}, {-1, -4}, {2, 1}, {1, 2}, {2, 3}, {4, 4}, {math.MinInt, 2}, {2, math.MaxInt}, {math.MaxInt, math.MaxInt}, {1 << 32, 1 << 32}} {
		l = append(l, Image{good.Format, rect.Matrix{W: side[0], H: side[1], L: good.M.L}})
	}
	wide, high := gray(make([]int, widest+1)...), gray(make([]int, highest+1)...)
	return append(l, of(1, 9, widest+1, wide), of(1, 9, 1, high))
}

// What the chapter says, by other means.

// kindsOf are the kinds that may tell images of a format that may be.
func kindsOf(f api.Format) []int {
	switch {
	case f.Channels == 3:
		return []int{3, 6}
	case f.Maxval == 1:
		return []int{1, 2, 4, 5}
	}
	return []int{2, 5}
}

// headText is the bytes of an image's head.
func headText(m Image, kind int) string {
	s := "P" + strconv.Itoa(kind) + "\n" + strconv.Itoa(m.M.W) + " " + strconv.Itoa(m.M.H) + "\n"
	if kind != 1 && kind != 4 {
		s += strconv.Itoa(m.Format.Maxval) + "\n"
	}
	return s
}

// rasterBytes is the bytes of an image's raster.
func rasterBytes(m Image, kind int) []byte {
	var b []byte
	for row := range slices.Chunk(m.M.L, m.M.W) {
		switch kind {
		case 1:
			for i, p := range row {
				b = strconv.AppendInt(b, int64(p&1), 10)
				if i%70 == 69 || i == len(row)-1 {
					b = append(b, 10)
				}
			}
		case 4:
			eighths := make([]byte, (len(row)+7)/8)
			for i, p := range row {
				eighths[i/8] |= byte(p&1) << (7 - i%8)
			}
			b = append(b, eighths...)
		default:
			for _, p := range row {
				b = append(b, pixelBytes(samples(p, m.Format), kind, m.Format.Maxval)...)
			}
		}
	}
	return b
}

// pixelBytes is the bytes of a pixel's samples, of the kinds 2, 3, 5 and 6.
func pixelBytes(l []int, kind, maxval int) []byte {
	var b []byte
	if kind < 4 {
		var texts []string
		for _, n := range l {
			texts = append(texts, strconv.Itoa(n))
		}
		return []byte(strings.Join(texts, " ") + "\n")
	}
	for _, n := range l {
		if maxval > 255 {
			b = append(b, byte(n/256))
		}
		b = append(b, byte(n%256))
	}
	return b
}

func bytesOf(m Image, kind int) []byte {
	return append([]byte(headText(m, kind)), rasterBytes(m, kind)...)
}

// maybe tells whether an image may be, number by number.
func maybe(m Image) bool {
	f := m.Format
	if f.Channels != 1 && f.Channels != 3 || f.Maxval < 1 || f.Maxval > deepest {
		return false
	}
	if m.M.W < 1 || m.M.W > widest || m.M.H < 1 || m.M.H > highest || m.M.W*m.M.H > most || len(m.M.L) != m.M.W*m.M.H {
		return false
	}
	for _, p := range m.M.L {
		l := samples(p, f)
		again := gray(l[0])
		if f.Channels == 3 {
			again = color(l...)
		}
		if p != again[0] || slices.Max(l) > f.Maxval {
			return false
		}
	}
	return true
}

// alike tells whether all of two images is the same.
func alike(a, b Image) bool {
	return a.Format.Channels == b.Format.Channels && a.Format.Maxval == b.Format.Maxval && a.M.W == b.M.W && a.M.H == b.M.H && slices.Equal(a.M.L, b.M.L)
}

// copied is an image that shares nothing with m.
func copied(m Image) Image {
	m.M.L = slices.Clone(m.M.L)
	return m
}

// parses holds what Parse answers against what it should.
func parses(t *testing.T, b []byte, l api.Limits, want Image, used int, e api.Errno) {
	t.Helper()
	was := bytes.Clone(b)
	m, n, f := Parse(b, l)
	if !alike(m, want) || n != used || f != e {
		t.Errorf("Parse(%q, %v) = %v, %d, %v, not %v, %d, %v", b, l, m, n, f, want, used, e)
	}
	if !bytes.Equal(b, was) {
		t.Errorf("Parse(%q) made it %q", was, b)
	}
}

// refuses holds that Parse answers an error, and nothing else.
func refuses(t *testing.T, s string, e api.Errno) {
	t.Helper()
	parses(t, []byte(s), head.All(), Image{}, 0, e)
}

// P10.1: May, Kinds

func TestMay(t *testing.T) {
	for _, m := range many() {
		if !May(m) || !maybe(m) {
			t.Errorf("May(%v) = %v", m, May(m))
		}
	}
	for _, m := range broken() {
		if May(m) || maybe(m) {
			t.Errorf("May(%v %d %d) = %v", m.Format, m.M.W, m.M.H, May(m))
		}
	}
}

func TestMayOfTheGreatest(t *testing.T) {
	for _, x := range []struct {
		w, h int
		want bool
	}{
		{widest, 1, true}, {widest + 1, 1, false}, {1, highest, true}, {1, highest + 1, false},
		{widest, most / widest, true}, {widest, most/widest + 1, false}, {256, highest, true}, {257, highest, false},
	} {
		l := make([]api.Pixel, x.w*x.h)
		for i := range l {
			l[i] = 1<<48 + api.Pixel(i%10)
		}
		m := Image{api.Format{Channels: 1, Maxval: 9}, rect.Matrix{W: x.w, H: x.h, L: l}}
		if May(m) != x.want {
			t.Errorf("May of %d by %d = %v", x.w, x.h, !x.want)
		}
		l[len(l)-1] = 1<<48 + 10
		if May(m) {
			t.Errorf("May of %d by %d, whose last pixel does not fit", x.w, x.h)
		}
		h, e := Head(m, 5)
		if h != (head.Head{}) || e != api.ErrArg {
			t.Errorf("Head of %d by %d = %v, %v", x.w, x.h, h, e)
		}
	}
}

func TestKinds(t *testing.T) {
	for _, maxval := range []int{1, 2, 9, 254, 255, 256, 65534, deepest} {
		for _, channels := range []int{1, 3} {
			f := api.Format{Channels: channels, Maxval: maxval}
			if l := Kinds(f); !slices.Equal(l, kindsOf(f)) {
				t.Errorf("Kinds(%v) = %v", f, l)
			}
		}
	}
	for channels := -2; channels <= 7; channels++ {
		for _, maxval := range []int{math.MinInt, -255, -1, 0, 1, 2, 255, deepest, deepest + 1, math.MaxInt} {
			f := api.Format{Channels: channels, Maxval: maxval}
			if good := (channels == 1 || channels == 3) && maxval >= 1 && maxval <= deepest; !good && len(Kinds(f)) != 0 {
				t.Errorf("Kinds(%v) = %v", f, Kinds(f))
			}
		}
	}
	for _, f := range []api.Format{{}, {Channels: math.MinInt, Maxval: 1}, {Channels: math.MaxInt, Maxval: 1}} {
		if len(Kinds(f)) != 0 {
			t.Errorf("Kinds(%v) = %v", f, Kinds(f))
		}
	}
}

func TestKindsAreTheAskersOwn(t *testing.T) {
	f := api.Format{Channels: 1, Maxval: 1}
	l := Kinds(f)
	for i := range l {
		l[i] = 99
	}
	if l := Kinds(f); !slices.Equal(l, []int{1, 2, 4, 5}) {
		t.Error(l)
	}
}

// P10.1: Head, Write

// allKinds are the kinds, and numbers that are none.
func allKinds() []int {
	return []int{math.MinInt, -6, -5, -1, 0, 1, 2, 3, 4, 5, 6, 7, 8, 49, 52, 53, 54, 256 + 5, math.MaxInt}
}

func TestHeadAndWrite(t *testing.T) {
	for _, m := range many() {
		was := copied(m)
		for _, kind := range allKinds() {
			h, e := Head(m, kind)
			b, f := Write(m, kind)
			if !slices.Contains(kindsOf(m.Format), kind) {
				if h != (head.Head{}) || e != api.ErrArg || len(b) != 0 || f != api.ErrArg {
					t.Errorf("%v, kind %d: %v, %v; %q, %v", m, kind, h, e, b, f)
				}
				continue
			}
			if want := (head.Head{Kind: kind, W: m.M.W, H: m.M.H, Maxval: m.Format.Maxval}); h != want || e != api.OK {
				t.Errorf("Head(%v, %d) = %v, %v", m, kind, h, e)
			}
			if want := bytesOf(m, kind); !bytes.Equal(b, want) || f != api.OK {
				t.Errorf("Write(%v, %d) = %q, %v, not %q", m, kind, b, f, want)
			}
		}
		if !alike(m, was) {
			t.Errorf("%v became %v", was, m)
		}
	}
}

func TestHeadAndWriteOfWhatMayNotBe(t *testing.T) {
	for _, m := range broken() {
		for _, kind := range allKinds() {
			if h, e := Head(m, kind); h != (head.Head{}) || e != api.ErrArg {
				t.Errorf("Head(%v, %d) = %v, %v", m.Format, kind, h, e)
			}
			if b, e := Write(m, kind); len(b) != 0 || e != api.ErrArg {
				t.Errorf("Write(%v, %d) = %q, %v", m.Format, kind, b, e)
			}
		}
	}
}

func TestWriteAsItStands(t *testing.T) {
	for _, x := range []struct {
		m    Image
		kind int
		want string
	}{
		{grays(1, 2, 1, 0), 1, "P1\n2 1\n10\n"},
		{grays(1, 2, 1, 0), 2, "P2\n2 1\n1\n1\n0\n"},
		{grays(1, 2, 1, 0), 4, "P4\n2 1\n\x80"},
		{grays(1, 2, 1, 0), 5, "P5\n2 1\n1\n\x01\x00"},
		{grays(1, 1, 1, 0), 4, "P4\n1 2\n\x80\x00"},
		{grays(300, 1, 258, 7), 2, "P2\n1 2\n300\n258\n7\n"},
		{grays(300, 1, 258, 7), 5, "P5\n1 2\n300\n\x01\x02\x00\x07"},
		{grays(255, 2, 255, 10), 5, "P5\n2 1\n255\n\xff\x0a"},
		{grays(256, 2, 256, 10), 5, "P5\n2 1\n256\n\x01\x00\x00\x0a"},
		{colors(1, 1, 1, 0, 1), 3, "P3\n1 1\n1\n1 0 1\n"},
		{colors(1, 1, 1, 0, 1), 6, "P6\n1 1\n1\n\x01\x00\x01"},
		{colors(9, 2, 1, 2, 3, 4, 5, 6), 3, "P3\n2 1\n9\n1 2 3\n4 5 6\n"},
		{colors(300, 1, 1, 2, 300), 6, "P6\n1 1\n300\n\x00\x01\x00\x02\x01\x2c"},
	} {
		if b, e := Write(x.m, x.kind); string(b) != x.want || e != api.OK {
			t.Errorf("Write(%v, %d) = %q, %v, not %q", x.m, x.kind, b, e, x.want)
		}
		parses(t, []byte(x.want), head.All(), x.m, len(x.want)-tail(x.kind), api.OK)
	}
}

// tail is how many bytes stand behind what ends the last sample: of the kind 1 the digit does, and the line's end is none of it.
func tail(kind int) int {
	if kind == 1 {
		return 1
	}
	return 0
}

// P10.1: Same

func TestSame(t *testing.T) {
	m := grays(9, 2, 1, 2, 3, 4)
	for i, x := range []struct {
		o    Image
		want bool
	}{
		{grays(9, 2, 1, 2, 3, 4), true},
		{grays(8, 2, 1, 2, 3, 4), false},
		{of(3, 9, 2, gray(1, 2, 3, 4)), false},
		{of(0, 0, 2, gray(1, 2, 3, 4)), false},
		{grays(9, 4, 1, 2, 3, 4), false},
		{grays(9, 1, 1, 2, 3, 4), false},
		{grays(9, 2, 1, 2, 3, 5), false},
		{grays(9, 2, 0, 2, 3, 4), false},
		{grays(9, 2, 1, 2), false},
		{grays(9, 2, 1, 2, 3, 4, 5, 6), false},
		{Image{m.Format, rect.Matrix{W: 2, H: 3, L: m.M.L}}, false},
		{Image{m.Format, rect.Matrix{W: 3, H: 2, L: m.M.L}}, false},
		{Image{M: m.M}, false},
		{Image{Format: m.Format}, false},
		{Image{}, false},
	} {
		if Same(m, x.o) != x.want || Same(x.o, m) != x.want || !Same(x.o, x.o) {
			t.Errorf("%d: Same(%v, %v) = %v", i, m, x.o, Same(m, x.o))
		}
	}
	if !Same(Image{}, Image{M: rect.Matrix{L: []api.Pixel{}}}) {
		t.Error("no list, and one of nothing, are not the same")
	}
	all := append(many(), broken()...)
	for _, a := range all {
		for _, b := range all {
			if Same(a, b) != alike(a, b) {
				t.Errorf("Same(%v, %v) = %v", a, b, Same(a, b))
			}
		}
	}
}

// P10.2

func TestParseOfEachKind(t *testing.T) {
	for _, x := range []struct {
		s    string
		want Image
		used int
	}{
		{"P1 2 1 10", grays(1, 2, 1, 0), 9},
		{"P1 2 1 10 ", grays(1, 2, 1, 0), 9},
		{"P1 2 1 1012", grays(1, 2, 1, 0), 9},
		{"P1\n2 2\n1 0\n0\t1x", grays(1, 2, 1, 0, 0, 1), 14},
		{"P1#h\n2#w\n1#h\n \r\v\f 1 \n\n0", grays(1, 2, 1, 0), 23},
		{"P2 2 1 9 1 2", grays(9, 2, 1, 2), 12},
		{"P2 2 1 9 1 2 ", grays(9, 2, 1, 2), 13},
		{"P2 2 1 9 1 2\nabc", grays(9, 2, 1, 2), 13},
		{"P2 2 1 9 \n\t\v\f\r 1 \n\n 002  ", grays(9, 2, 1, 2), 24},
		{"P2#a\n#b\n 2 #c\n1#d\r9#e\n1 2 3 4", grays(9, 2, 1, 2), 26},
		{"P2 1 1 65535 65535", grays(deepest, 1, deepest), 18},
		{"P3 1 1 9 1 2 3", colors(9, 1, 1, 2, 3), 14},
		{"P3 1 1 9 1\n2\r3\x00", Image{}, -int(api.ErrNumber)},
		{"P3 1 1 9 1\n2\r3\t\x00", colors(9, 1, 1, 2, 3), 15},
		{"P3 1 2 300 1 2 3 300 0 7 8", colors(300, 1, 1, 2, 3, 300, 0, 7), 25},
		{"P4 2 1 \x80", grays(1, 2, 1, 0), 8},
		{"P4 2 1 \xbf", grays(1, 2, 1, 0), 8},
		{"P4 2 1 \x80\x80", grays(1, 2, 1, 0), 8},
		{"P4 2 1#h\n\x80P4 1 1 ", grays(1, 2, 1, 0), 10},
		{"P4 9 1\n\n\x80", grays(1, 9, 0, 0, 0, 0, 1, 0, 1, 0, 1), 9},
		{"P5 3 2 255\nabcdefgh", grays(255, 3, 97, 98, 99, 100, 101, 102), 17},
		{"P5 2 1 255#\n##", grays(255, 2, 35, 35), 14},
		{"P5 2 1 300 \x01\x2c\x00\x0a\x00", grays(300, 2, 300, 10), 15},
		{"P6 1 1 255 abcd", colors(255, 1, 97, 98, 99), 14},
		{"P6 1 1 256\r\x01\x00\x00\x20\x00\x0a\x00", colors(256, 1, 256, 32, 10), 17},
	} {
		if x.used < 0 {
			refuses(t, x.s, api.Errno(-x.used))
			continue
		}
		parses(t, []byte(x.s), head.All(), x.want, x.used, api.OK)
		if !May(x.want) {
			t.Errorf("%v may not be", x.want)
		}
	}
}

func TestParseTellsWhatIsMetFirst(t *testing.T) {
	for _, x := range []struct {
		s string
		e api.Errno
	}{
		{"", api.ErrShort}, {"P", api.ErrShort}, {"P5", api.ErrShort}, {"P5 2 1 9", api.ErrShort}, {"P5 2 1 9#h", api.ErrShort},
		{"Q", api.ErrMagic}, {" P5 1 1 1 \x00", api.ErrMagic}, {"P0", api.ErrMagic}, {"P7 1 1 1 0", api.ErrMagic}, {"p5 1 1 1 \x00", api.ErrMagic}, {"1 2", api.ErrMagic},
		{"P51 1 1 \x00", api.ErrNumber}, {"P5 a", api.ErrNumber}, {"P5 1 1a 9 \x00", api.ErrNumber}, {"P5 1 -1 9 \x00", api.ErrNumber},
		{"P5 0 1 9 \x00", api.ErrRange}, {"P5 1 0 9 \x00", api.ErrRange}, {"P5 1 1 0 \x00", api.ErrRange}, {"P2 0 1 9 x", api.ErrRange},
		{"P5 4097 1 9 \x00", api.ErrRange}, {"P5 1 65537 9 \x00", api.ErrRange}, {"P5 1 1 65536 \x00\x00", api.ErrRange},
		{"P1 4097 1 x", api.ErrRange}, {"P4 1 65537 ", api.ErrRange}, {"P2 1 1 65536 x", api.ErrRange},
		{"P5 2 1 9 \x01", api.ErrShort}, {"P5 2 1 9 \x0a\x01", api.ErrSample}, {"P5 2 1 9 \x01\x0a", api.ErrSample}, {"P5 2 1 9 \x0a", api.ErrSample},
		{"P5 2 1 300 \x01\x2d", api.ErrSample}, {"P5 2 1 300 \x02", api.ErrShort},
		{"P6 1 1 9 \x01\x01", api.ErrShort}, {"P6 1 1 9 \x01\x01\x0a", api.ErrSample},
		{"P4 9 1 \xff", api.ErrShort}, {"P4 1 1 ", api.ErrShort}, {"P4 1 1", api.ErrShort},
		{"P1 2 1 1", api.ErrShort}, {"P1 2 1 1 2", api.ErrNumber}, {"P1 2 1 12", api.ErrNumber}, {"P1 2 1 #r\n1 1", api.ErrNumber}, {"P1 2 1 1 #r\n1", api.ErrNumber},
		{"P2 2 1 9", api.ErrShort}, {"P2 2 1 9 ", api.ErrShort}, {"P2 2 1 9 1", api.ErrShort}, {"P2 2 1 9 1 ", api.ErrShort}, {"P2 2 1 9 1 x", api.ErrNumber},
		{"P2 2 1 9 1x 10", api.ErrNumber}, {"P2 2 1 9 10 x", api.ErrSample}, {"P2 2 1 9 1 10", api.ErrSample}, {"P2 2 1 9 1#r\n2", api.ErrNumber}, {"P2 2 1 9 #r\n1 2", api.ErrNumber},
		{"P3 1 1 9 1 2", api.ErrShort}, {"P3 1 1 9 1 2 ", api.ErrShort}, {"P3 1 1 9 1 2 10", api.ErrSample}, {"P3 1 1 9 1,2,3", api.ErrNumber},
		{"P2 4096 65536 9 1 2 3", api.ErrShort}, {"P1 4096 65536 101", api.ErrShort}, {"P3 4096 65536 65535 1", api.ErrShort},
		{"P4 4096 65536 \xff", api.ErrShort}, {"P5 4096 65536 9 \x09", api.ErrShort}, {"P6 4096 65536 9 \x09\x0a", api.ErrSample},
	} {
		refuses(t, x.s, x.e)
	}
	parses(t, nil, head.All(), Image{}, 0, api.ErrShort)
}

// A head within the greatest limits may be beyond those that are asked for.
func TestParseWithLimits(t *testing.T) {
	s := []byte("P2 3 2 9 1 2 3 4 5 6 ")
	m := grays(9, 3, 1, 2, 3, 4, 5, 6)
	for _, x := range []struct {
		w, h, maxval int
		e            api.Errno
	}{
		{3, 2, 9, api.OK}, {2, 2, 9, api.ErrRange}, {3, 1, 9, api.ErrRange}, {3, 2, 8, api.ErrRange}, {4, 3, 10, api.OK},
		{math.MaxInt, math.MaxInt, math.MaxInt, api.OK}, {0, 0, 0, api.ErrRange}, {-1, 2, 9, api.ErrRange}, {3, math.MinInt, 9, api.ErrRange},
	} {
		l := api.Limits{Width: x.w, Height: x.h, Maxval: x.maxval}
		if x.e == api.OK {
			parses(t, s, l, m, len(s), api.OK)
		} else {
			parses(t, s, l, Image{}, 0, x.e)
		}
	}
	one := api.Limits{Width: 1, Height: 1, Maxval: 1}
	parses(t, []byte("P4 1 1 \x80"), one, grays(1, 1, 1), 8, api.OK)
	parses(t, []byte("P4 2 1 \x80"), one, Image{}, 0, api.ErrRange)
	parses(t, []byte("P4 2"), one, Image{}, 0, api.ErrRange)
	parses(t, []byte("P6 1 1 2 \x03"), one, Image{}, 0, api.ErrRange)
}

// wholeAt is what the first n bytes of a plain image tell, if they end in its last number: the image with that number, cut off.
func wholeAt(m Image, kind int, b []byte, n int) (Image, bool) {
	end := len(b) - 1 // the last line's end
	if kind == 1 {
		return m, n >= end
	}
	from := bytes.LastIndexAny(b[:end], " \n") + 1
	if n <= from {
		return Image{}, false
	}
	number, _ := strconv.Atoi(string(b[from:min(n, end)]))
	o := copied(m)
	last := &o.M.L[len(o.M.L)-1]
	*last -= *last&65535 - api.Pixel(number)
	return o, true
}

func TestParseOfWhatIsCutOff(t *testing.T) {
	for _, m := range many() {
		for _, kind := range Kinds(m.Format) {
			b := bytesOf(m, kind)
			all := len(b) - tail(kind)
			for n := range len(b) + 1 {
				want, whole := m, n == len(b)
				if kind < 4 {
					want, whole = wholeAt(m, kind, b, n)
				}
				if whole {
					parses(t, b[:n:n], head.All(), want, min(n, all), api.OK)
				} else {
					parses(t, b[:n:n], head.All(), Image{}, 0, api.ErrShort)
				}
			}
		}
	}
}

func TestParseLeavesWhatIsBehind(t *testing.T) {
	for _, m := range many() {
		for _, kind := range Kinds(m.Format) {
			b := bytesOf(m, kind)
			all := len(b) - tail(kind)
			for _, behind := range []string{"0", "9", "x", "#", " ", "\n", "\x00", "\xff\xff\xff\xff\xff\xff\xff\xff", "P5 1 1 1 \x01"} {
				parses(t, append(bytes.Clone(b), behind...), head.All(), m, all, api.OK)
			}
		}
	}
}

// Of two images one behind the other each is parsed from where the one ahead ends.
func TestParseOneBehindTheOther(t *testing.T) {
	var stream []byte
	var told []Image
	for _, m := range many() {
		for _, kind := range Kinds(m.Format) {
			stream = append(stream, bytesOf(m, kind)[:len(bytesOf(m, kind))-tail(kind)]...)
			told = append(told, m)
		}
	}
	for i, want := range told {
		m, n, e := Parse(stream, head.All())
		if !alike(m, want) || e != api.OK {
			t.Fatalf("image %d: %v, %d, %v", i, m, n, e)
		}
		stream = stream[n:]
	}
	parses(t, stream, head.All(), Image{}, 0, api.ErrShort)
}

// A wrong sample at each place of the raster: the error is that one's, whatever is behind.
func TestParseOfAWrongSample(t *testing.T) {
	for _, m := range []Image{sized(1, 9, 3, 2, 1), sized(3, 9, 2, 2, 2), sized(1, 300, 2, 2, 3), sized(3, 300, 2, 1, 4)} {
		f := m.Format
		for _, kind := range Kinds(f) {
			for i := range m.M.L {
				for c := range f.Channels {
					o := copied(m)
					l := samples(o.M.L[i], f)
					l[c] = f.Maxval + 1
					o.M.L[i] = gray(l[0])[0]
					if f.Channels == 3 {
						o.M.L[i] = color(l...)[0]
					}
					b := bytesOf(o, kind)
					parses(t, b, head.All(), Image{}, 0, api.ErrSample)
					parses(t, append(b, "xyz"...), head.All(), Image{}, 0, api.ErrSample)
				}
			}
		}
	}
}

// P10.3: Find

func TestFind(t *testing.T) {
	big := grays(9, 3, 1, 2, 1, 2, 1, 2)
	ones := grays(9, 4, 1, 1, 1, 1, 1, 1, 1, 1)
	for i, x := range []struct {
		m, o Image
		want [][2]int
	}{
		{big, grays(9, 2, 1, 2), [][2]int{{0, 0}, {1, 1}}},
		{big, grays(8, 2, 1, 2), nil},
		{big, grays(10, 2, 1, 2), nil},
		{big, grays(9, 2, 1, 2, 2, 1), [][2]int{{0, 0}}},
		{big, grays(9, 2, 2, 1, 1, 2), [][2]int{{1, 0}}},
		{big, grays(9, 1, 2), [][2]int{{1, 0}, {0, 1}, {2, 1}}},
		{big, grays(9, 1, 3), nil},
		{big, big, [][2]int{{0, 0}}},
		{big, grays(9, 4, 1, 2, 1, 2), nil},
		{big, grays(9, 1, 1, 2, 1), nil},
		{grays(9, 2, 1, 2), big, nil},
		{ones, grays(9, 2, 1, 1), [][2]int{{0, 0}, {1, 0}, {2, 0}, {0, 1}, {1, 1}, {2, 1}}},
		{ones, grays(9, 2, 1, 1, 1, 1), [][2]int{{0, 0}, {1, 0}, {2, 0}}},
		{colors(9, 2, 1, 2, 3, 4, 5, 6), colors(9, 1, 4, 5, 6), [][2]int{{1, 0}}},
		{colors(9, 2, 1, 2, 3, 4, 5, 6), colors(7, 1, 4, 5, 6), nil},
		{colors(9, 2, 0, 0, 1, 0, 0, 1), grays(9, 1, 1), nil},
		{grays(9, 2, 1, 1), colors(9, 1, 0, 0, 1), nil},
	} {
		m, o := copied(x.m), copied(x.o)
		if l := Find(x.m, x.o); !slices.Equal(l, x.want) {
			t.Errorf("%d: Find(%v, %v) = %v, not %v", i, x.m, x.o, l, x.want)
		}
		if !alike(m, x.m) || !alike(o, x.o) {
			t.Errorf("%d: what was handed in was changed", i)
		}
	}
}

// placesOf is where o is in m, number by number.
func placesOf(m, o Image) [][2]int {
	var l [][2]int
	for y := 0; y+o.M.H <= m.M.H; y++ {
		for x := 0; x+o.M.W <= m.M.W; x++ {
			there := m.Format.Channels == o.Format.Channels && m.Format.Maxval == o.Format.Maxval
			for i, p := range o.M.L {
				there = there && m.M.L[(y+i/o.M.W)*m.M.W+x+i%o.M.W] == p
			}
			if there {
				l = append(l, [2]int{x, y})
			}
		}
	}
	return l
}

func TestFindOfMany(t *testing.T) {
	all := many()
	for n := range 64 {
		bits := []int{n & 1, n >> 1 & 1, n >> 2 & 1, n >> 3 & 1, n >> 4 & 1, n >> 5 & 1}
		for _, w := range []int{1, 2, 3, 6} {
			all = append(all, grays(1, w, bits...))
		}
		all = append(all, grays(1, 2, bits[:2]...), grays(1, 1, bits[:2]...), grays(1, 1, bits[:1]...), grays(2, 2, bits[:2]...))
	}
	for _, m := range all {
		for _, o := range all {
			if l := Find(m, o); !slices.Equal(l, placesOf(m, o)) {
				t.Errorf("Find(%v, %v) = %v", m, o, l)
			}
		}
	}
}

// P10.3: Turned

func TestTurned(t *testing.T) {
	for _, x := range []struct{ m, want Image }{
		{grays(1, 2, 1, 0), grays(1, 2, 0, 1)},
		{grays(9, 3, 1, 2, 1, 2, 1, 2), grays(9, 3, 8, 7, 8, 7, 8, 7)},
		{grays(9, 2, 0, 9, 4, 5), grays(9, 2, 9, 0, 5, 4)},
		{grays(deepest, 1, 0, 1, deepest), grays(deepest, 1, deepest, deepest-1, 0)},
		{colors(9, 2, 1, 2, 3, 9, 0, 5), colors(9, 2, 8, 7, 6, 0, 9, 4)},
		{colors(300, 1, 1, 2, 300), colors(300, 1, 299, 298, 0)},
	} {
		was := copied(x.m)
		m, e := Turned(x.m)
		if !alike(m, x.want) || e != api.OK || !alike(was, x.m) {
			t.Errorf("Turned(%v) = %v, %v, not %v", x.m, m, e, x.want)
		}
	}
	for _, m := range many() {
		o, e := Turned(m)
		again, f := Turned(o)
		if e != api.OK || f != api.OK || !maybe(o) || o.Format != m.Format || o.M.W != m.M.W || o.M.H != m.M.H || !alike(again, m) {
			t.Errorf("Turned(%v) = %v, %v; turned again %v, %v", m, o, e, again, f)
		}
		for i, p := range m.M.L {
			a, b := samples(p, m.Format), samples(o.M.L[i], m.Format)
			for c := range a {
				if a[c]+b[c] != m.Format.Maxval {
					t.Errorf("%v: %v became %v", m.Format, a, b)
				}
			}
		}
	}
	for _, m := range broken() {
		if o, e := Turned(m); !alike(o, Image{}) || e != api.ErrArg {
			t.Errorf("Turned(%v) = %v, %v", m.Format, o, e)
		}
	}
}

// P10.4

func TestWhatIsWrittenIsParsed(t *testing.T) {
	images := append(many(), sized(1, 1, 70, 2, 3), sized(1, 1, 141, 3, 4), sized(1, 255, widest, 2, 5), sized(3, 300, 2, 2000, 6), sized(1, 1, widest, 2, 7), sized(1, 1, 3, highest, 8))
	for _, m := range images {
		kinds := 0
		for kind := 1; kind <= 6; kind++ {
			b, e := Write(m, kind)
			if e != api.OK {
				continue
			}
			kinds++
			o, n, e := Parse(b, head.All())
			if e != api.OK || !Same(o, m) || !alike(o, m) || n != len(b)-tail(kind) {
				t.Errorf("%v, %d by %d, kind %d: %d of %d bytes, %v", m.Format, m.M.W, m.M.H, kind, n, len(b), e)
			}
			h, _ := Head(m, kind)
			if g, _, e := head.Parse(string(b), head.All()); g != h || e != api.OK {
				t.Errorf("%v, kind %d: head %v, %v, not %v", m.Format, kind, g, e, h)
			}
		}
		if kinds != len(Kinds(m.Format)) {
			t.Errorf("%v: written in %d kinds", m.Format, kinds)
		}
	}
}

// Each image of 0 and 1 of up to six pixels, of each kind.
func TestAllSmallImages(t *testing.T) {
	for _, size := range [][2]int{{1, 1}, {2, 1}, {1, 2}, {3, 1}, {2, 2}, {3, 2}, {2, 3}, {6, 1}, {1, 6}} {
		n := size[0] * size[1]
		for bits := range 1 << n {
			l := make([]int, n)
			for i := range l {
				l[i] = bits >> i & 1
			}
			for _, m := range []Image{grays(1, size[0], l...), grays(2, size[0], l...)} {
				for _, kind := range Kinds(m.Format) {
					b, _ := Write(m, kind)
					parses(t, b, head.All(), m, len(b)-tail(kind), api.OK)
				}
			}
		}
	}
}

// R4

// spared is an image whose list has room behind it, and that list, whole.
func spared(m Image) (Image, []api.Pixel) {
	n := len(m.M.L)
	room := append(slices.Clone(m.M.L), 7, 8, 9)
	m.M.L = room[:n]
	return m, room
}

func TestWhatIsHandedInStaysAsItIs(t *testing.T) {
	for _, m := range many() {
		o, room := spared(m)
		was := slices.Clone(room)
		May(o)
		Kinds(o.Format)
		for _, kind := range allKinds() {
			Head(o, kind)
			b, _ := Write(o, kind)
			overwrite(b)
		}
		Same(o, m)
		Find(o, o)
		x, _ := Turned(o)
		overwrite(x.M.L)
		if !slices.Equal(room, was) || o.M.W != m.M.W || o.M.H != m.M.H {
			t.Errorf("%v: %v became %v", m.Format, was, room)
		}
	}
}

// overwrite overwrites all of a list, and the room behind it.
func overwrite[T byte | api.Pixel](l []T) {
	l = l[:cap(l)]
	for i := range l {
		l[i] = 99
	}
}

func TestParseKeepsNothing(t *testing.T) {
	for _, m := range many() {
		for _, kind := range Kinds(m.Format) {
			b := bytesOf(m, kind)
			room := append(bytes.Clone(b), "0 1 2 3"...)
			was := bytes.Clone(room)
			o, _, _ := Parse(room[:len(b)], head.All())
			if !bytes.Equal(room, was) {
				t.Errorf("%v: %q became %q", m.Format, was, room)
			}
			overwrite(room)
			if !alike(o, m) {
				t.Errorf("%v became %v, as what was parsed did", m, o)
			}
		}
	}
}

// No answer shares memory with another one, or with what was handed in.
func TestAnswersStandForThemselves(t *testing.T) {
	for _, m := range many() {
		was := copied(m)
		a, _ := Turned(m)
		b, _ := Turned(m)
		overwrite(a.M.L)
		if again, _ := Turned(b); !alike(again, was) || !alike(m, was) {
			t.Errorf("%v: what was turned shares with another one", m.Format)
		}
		for _, kind := range Kinds(m.Format) {
			text, _ := Write(m, kind)
			other, _ := Write(m, kind)
			c, _, _ := Parse(text, head.All())
			d, _, _ := Parse(text, head.All())
			overwrite(text)
			overwrite(c.M.L)
			if !bytes.Equal(other, bytesOf(was, kind)) || !alike(d, was) || !alike(m, was) {
				t.Errorf("%v, kind %d: what was answered shares with another one", m.Format, kind)
			}
		}
		l, o := Find(m, m), Find(m, m)
		for i := range l {
			l[i] = [2]int{-1, -1}
		}
		if !slices.Equal(o, placesOf(m, m)) {
			t.Errorf("%v: Find shares with another one", m.Format)
		}
	}
}

// What was overwritten behind one image's last pixel is no other's.
func TestGrownAnswersShareNothing(t *testing.T) {
	text := []byte("P5 2 2 255 abcd")
	a, _, _ := Parse(text, head.All())
	b, _, _ := Parse(text, head.All())
	grown := append(a.M.L, gray(1, 2, 3)...)
	overwrite(grown)
	if !alike(b, grays(255, 2, 97, 98, 99, 100)) || string(text) != "P5 2 2 255 abcd" {
		t.Error(b, text)
	}
}
