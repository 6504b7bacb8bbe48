package pix

import (
	"math"
	"slices"
	"testing"

	"chequer/api"
)

const most = api.MaxSample

// edges are samples at and beside where something changes.
func edges() []int { return []int{0, 1, 2, 254, 255, 256, 32767, 32768, 65534, 65535} }

// noPixels are numbers that are no pixel, one of each kind.
func noPixels() []api.Pixel {
	return []api.Pixel{
		0, 1, most, 1<<48 - 1, // of no samples
		1<<48 + 1<<16, 1<<48 + 1<<31, 1<<48 + 1<<32, 1<<48 + 1<<47, 2<<48 - 1, // of one, and more above it
		2 << 48, 2<<48 + 7, 2<<48 + 1<<16, 3<<48 - 1, // of two
		4 << 48, 5 << 48, 7<<48 + 1, 1 << 56, 257 << 48, 259 << 48, // of more
		1<<63 + 1<<48, 1<<63 + 3<<48, math.MaxUint64,
	}
}

// noFormats are formats that may not be.
func noFormats() []api.Format {
	return []api.Format{
		{}, {Channels: 1}, {Channels: 3}, {Maxval: 1},
		{Channels: 1, Maxval: -1}, {Channels: 3, Maxval: -1}, {Channels: 1, Maxval: math.MinInt}, {Channels: 3, Maxval: math.MinInt},
		{Channels: 1, Maxval: most + 1}, {Channels: 3, Maxval: most + 1}, {Channels: 1, Maxval: math.MaxInt}, {Channels: 3, Maxval: math.MaxInt},
		{Channels: 0, Maxval: 255}, {Channels: 2, Maxval: 255}, {Channels: 4, Maxval: 255}, {Channels: -1, Maxval: 255}, {Channels: -3, Maxval: 255},
		{Channels: math.MinInt, Maxval: 255}, {Channels: math.MaxInt, Maxval: 255}, {Channels: 257, Maxval: 255}, {Channels: 65537, Maxval: 255},
	}
}

// someLists are lists of samples that may be, no two the same.
func someLists() [][]int {
	var l [][]int
	for _, a := range edges() {
		l = append(l, []int{a})
		for _, b := range edges() {
			for _, c := range edges() {
				l = append(l, []int{a, b, c})
			}
		}
	}
	return l
}

func pack(t *testing.T, l ...int) api.Pixel {
	t.Helper()
	p, e := Pack(l...)
	if e != api.OK {
		t.Fatalf("Pack(%v): %v", l, e)
	}
	return p
}

// P1.1

func TestPackIsTheNumberThatTheChapterTells(t *testing.T) {
	for _, x := range []struct {
		l    []int
		want api.Pixel
	}{
		{[]int{0}, 281474976710656},
		{[]int{1}, 281474976710657},
		{[]int{65535}, 281474976776191},
		{[]int{0, 0, 0}, 844424930131968},
		{[]int{1, 2, 3}, 844429225230339},
		{[]int{65535, 0, 0}, 844424930131968 + 65535*4294967296},
		{[]int{0, 65535, 0}, 844424930131968 + 65535*65536},
		{[]int{0, 0, 65535}, 844424930131968 + 65535},
		{[]int{65535, 65535, 65535}, 4<<48 - 1},
	} {
		if p, e := Pack(x.l...); p != x.want || e != api.OK {
			t.Errorf("Pack(%v) = %d, %v, not %d", x.l, p, e, x.want)
		}
	}
	for _, l := range someLists() {
		want := api.Pixel(1<<48 + l[0])
		if len(l) == 3 {
			want = api.Pixel(3<<48 + l[0]<<32 + l[1]<<16 + l[2])
		}
		if p, e := Pack(l...); p != want || e != api.OK {
			t.Errorf("Pack(%v) = %d, %v, not %d", l, p, e, want)
		}
	}
}

func TestPackRefuses(t *testing.T) {
	for _, x := range []struct {
		l    []int
		want api.Errno
	}{
		{nil, api.ErrArg},
		{[]int{}, api.ErrArg},
		{[]int{1, 2}, api.ErrArg},
		{[]int{1, 2, 3, 4}, api.ErrArg},
		{[]int{1, 2, 3, 4, 5, 6}, api.ErrArg},
		{make([]int, 65537), api.ErrArg},
		{[]int{-1}, api.ErrRange},
		{[]int{65536}, api.ErrRange},
		{[]int{math.MinInt}, api.ErrRange},
		{[]int{math.MaxInt}, api.ErrRange},
		{[]int{-1, 0, 0}, api.ErrRange},
		{[]int{0, -1, 0}, api.ErrRange},
		{[]int{0, 0, -1}, api.ErrRange},
		{[]int{65536, 0, 0}, api.ErrRange},
		{[]int{0, 65536, 0}, api.ErrRange},
		{[]int{0, 0, 65536}, api.ErrRange},
		// how many there are is looked at ahead of what they are
		{[]int{-1, 65536}, api.ErrArg},
		{[]int{65536, -1, 0, 0}, api.ErrArg},
	} {
		if p, e := Pack(x.l...); p != 0 || e != x.want {
			t.Errorf("Pack(%v) = %d, %v, not 0, %v", x.l, p, e, x.want)
		}
	}
}

func TestPackLeavesItsList(t *testing.T) {
	room := []int{1, 2, 3, 4, 5}
	p := pack(t, room[:3]...)
	if !slices.Equal(room, []int{1, 2, 3, 4, 5}) {
		t.Error(room)
	}
	room[0] = 9
	if !slices.Equal(Unpack(p), []int{1, 2, 3}) {
		t.Error(Unpack(p))
	}
}

func TestUnpackIsTheSamples(t *testing.T) {
	for _, l := range someLists() {
		p := pack(t, l...)
		if u := Unpack(p); !slices.Equal(u, l) {
			t.Errorf("Unpack(%d) = %v, not %v", p, u, l)
		}
		if !May(p) {
			t.Errorf("May(%d) of %v", p, l)
		}
	}
}

func TestUnpackIsNewMemory(t *testing.T) {
	p := pack(t, 1, 2, 3)
	a, b := Unpack(p), Unpack(p)
	a[0] = 9
	if !slices.Equal(b, []int{1, 2, 3}) || !slices.Equal(Unpack(p), []int{1, 2, 3}) {
		t.Error(a, b, Unpack(p))
	}
}

func TestNumbersThatAreNoPixel(t *testing.T) {
	for _, p := range noPixels() {
		if May(p) {
			t.Errorf("May(%d)", p)
		}
		if u := Unpack(p); len(u) != 0 {
			t.Errorf("Unpack(%d) = %v", p, u)
		}
	}
	for count := range api.Pixel(1 << 16) {
		if May(count<<48) != (count == 1 || count == 3) {
			t.Errorf("May(%d << 48)", count)
		}
	}
}

func TestFormat(t *testing.T) {
	for _, f := range noFormats() {
		if Format(f) {
			t.Errorf("Format(%v)", f)
		}
	}
	for _, n := range []int{1, 2, 255, 256, 65534, 65535} {
		if !Format(api.Format{Channels: 1, Maxval: n}) || !Format(api.Format{Channels: 3, Maxval: n}) {
			t.Errorf("not Format of %d", n)
		}
	}
}

func TestFits(t *testing.T) {
	for _, x := range []struct {
		l                []int
		channels, maxval int
		want             bool
	}{
		{[]int{0}, 1, 1, true},
		{[]int{1}, 1, 1, true},
		{[]int{2}, 1, 1, false},
		{[]int{5}, 1, 5, true},
		{[]int{5}, 1, 4, false},
		{[]int{65535}, 1, 65535, true},
		{[]int{65535}, 1, 65534, false},
		{[]int{5}, 3, 7, false},
		{[]int{0, 0, 0}, 3, 1, true},
		{[]int{7, 7, 7}, 3, 7, true},
		{[]int{8, 7, 7}, 3, 7, false},
		{[]int{7, 8, 7}, 3, 7, false},
		{[]int{7, 7, 8}, 3, 7, false},
		{[]int{65535, 65535, 65535}, 3, 65535, true},
		{[]int{1, 2, 3}, 1, 7, false},
	} {
		f := api.Format{Channels: x.channels, Maxval: x.maxval}
		if Fits(pack(t, x.l...), f) != x.want {
			t.Errorf("Fits(%v, %v) is not %v", x.l, f, x.want)
		}
	}
}

func TestFitsNothingThatMayNotBe(t *testing.T) {
	for _, f := range noFormats() {
		for _, l := range [][]int{{0}, {1}, {65535}, {0, 0, 0}, {65535, 65535, 65535}} {
			if Fits(pack(t, l...), f) {
				t.Errorf("Fits(%v, %v)", l, f)
			}
		}
	}
	for _, p := range noPixels() {
		for channels := range 5 {
			if Fits(p, api.Format{Channels: channels, Maxval: most}) {
				t.Errorf("Fits(%d, %d channels)", p, channels)
			}
		}
		for _, f := range noFormats() {
			if Fits(p, f) {
				t.Errorf("Fits(%d, %v)", p, f)
			}
		}
	}
}

// P1.2

func TestGray(t *testing.T) {
	for _, x := range []struct{ a, b, c, want int }{
		{0, 0, 0, 0},
		{1, 0, 0, 0}, // 799
		{2, 0, 0, 1}, // 1098
		{0, 1, 0, 1}, // 1087
		{0, 0, 4, 0}, // 956
		{0, 0, 5, 1}, // 1070
		{0, 0, 250, 29},
		{1, 1, 0, 1}, // 1386
		{100, 0, 65535, 7501},
		{65535, 0, 0, 19595},
		{0, 65535, 0, 38469},
		{0, 0, 65535, 7471},
		{65535, 65535, 65535, 65535},
	} {
		if g, e := Gray(pack(t, x.a, x.b, x.c)); g != pack(t, x.want) || e != api.OK {
			t.Errorf("Gray of %v = %v, %v", x, Unpack(g), e)
		}
	}
	for _, s := range edges() {
		if g, e := Gray(pack(t, s, s, s)); g != pack(t, s) || e != api.OK {
			t.Errorf("Gray of three %d = %v, %v", s, Unpack(g), e)
		}
		if g, e := Gray(pack(t, s)); g != pack(t, s) || e != api.OK {
			t.Errorf("Gray of one %d = %v, %v", s, Unpack(g), e)
		}
	}
	for _, p := range noPixels() {
		if g, e := Gray(p); g != 0 || e != api.ErrArg {
			t.Errorf("Gray(%d) = %d, %v", p, g, e)
		}
	}
}

func TestTurned(t *testing.T) {
	for _, x := range []struct {
		l      []int
		maxval int
		want   []int
	}{
		{[]int{0}, 1, []int{1}},
		{[]int{1}, 1, []int{0}},
		{[]int{5}, 7, []int{2}},
		{[]int{7}, 7, []int{0}},
		{[]int{0}, 65535, []int{65535}},
		{[]int{65535}, 65535, []int{0}},
		{[]int{0, 3, 7}, 7, []int{7, 4, 0}},
		{[]int{1, 2, 65535}, 65535, []int{65534, 65533, 0}},
	} {
		f := api.Format{Channels: len(x.l), Maxval: x.maxval}
		if g, e := Turned(pack(t, x.l...), f); g != pack(t, x.want...) || e != api.OK {
			t.Errorf("Turned(%v, %v) = %v, %v", x.l, f, Unpack(g), e)
		}
	}
}

func TestTurnedRefuses(t *testing.T) {
	for _, x := range []struct {
		l []int
		f api.Format
	}{
		{[]int{8}, api.Format{Channels: 1, Maxval: 7}},
		{[]int{5}, api.Format{Channels: 3, Maxval: 7}},
		{[]int{1, 2, 3}, api.Format{Channels: 1, Maxval: 7}},
		{[]int{1, 2, 8}, api.Format{Channels: 3, Maxval: 7}},
		{[]int{8, 2, 1}, api.Format{Channels: 3, Maxval: 7}},
	} {
		if g, e := Turned(pack(t, x.l...), x.f); g != 0 || e != api.ErrArg {
			t.Errorf("Turned(%v, %v) = %d, %v", x.l, x.f, g, e)
		}
	}
	for _, f := range noFormats() {
		for _, l := range [][]int{{0}, {0, 0, 0}} {
			if g, e := Turned(pack(t, l...), f); g != 0 || e != api.ErrArg {
				t.Errorf("Turned(%v, %v) = %d, %v", l, f, g, e)
			}
		}
	}
	for _, p := range noPixels() {
		for channels := range 5 {
			if g, e := Turned(p, api.Format{Channels: channels, Maxval: most}); g != 0 || e != api.ErrArg {
				t.Errorf("Turned(%d, %d channels) = %d, %v", p, channels, g, e)
			}
		}
	}
}

func TestScaled(t *testing.T) {
	for _, x := range []struct {
		l        []int
		from, to int
		want     []int
	}{
		{[]int{0}, 1, 65535, []int{0}},
		{[]int{1}, 1, 65535, []int{65535}},
		{[]int{1}, 1, 1, []int{1}},
		{[]int{5}, 7, 1, []int{1}},
		{[]int{5}, 7, 255, []int{182}},
		{[]int{5}, 7, 65535, []int{46811}},
		{[]int{3}, 7, 1, []int{0}}, // (3 + 3) / 7
		{[]int{4}, 7, 1, []int{1}}, // (4 + 3) / 7
		{[]int{1}, 2, 1, []int{1}}, // (1 + 1) / 2: the half goes up
		{[]int{1}, 3, 1, []int{0}}, // (1 + 1) / 3: half of 3 is 1
		{[]int{2}, 5, 1, []int{0}}, // (2 + 2) / 5
		{[]int{2}, 5, 4, []int{2}}, // (8 + 2) / 5
		{[]int{127}, 255, 1, []int{0}},
		{[]int{128}, 255, 1, []int{1}},
		{[]int{32767}, 65535, 1, []int{0}},
		{[]int{32768}, 65535, 1, []int{1}},
		{[]int{65535}, 65535, 1, []int{1}},
		{[]int{65535}, 65535, 65534, []int{65534}},
		{[]int{0, 128, 255}, 255, 15, []int{0, 8, 15}},
		{[]int{15, 1, 0}, 15, 255, []int{255, 17, 0}},
		{[]int{65535, 65535, 65535}, 65535, 65535, []int{65535, 65535, 65535}},
	} {
		if g, e := Scaled(pack(t, x.l...), x.from, x.to); g != pack(t, x.want...) || e != api.OK {
			t.Errorf("Scaled(%v, %d, %d) = %v, %v, not %v", x.l, x.from, x.to, Unpack(g), e, x.want)
		}
	}
	for _, l := range someLists() {
		p := pack(t, l...)
		if g, e := Scaled(p, most, most); g != p || e != api.OK {
			t.Errorf("Scaled(%v) to the same = %v, %v", l, Unpack(g), e)
		}
	}
}

func TestScaledRefuses(t *testing.T) {
	for _, l := range [][]int{{0}, {1}, {0, 0, 0}, {1, 0, 1}} {
		p := pack(t, l...)
		for _, n := range []int{0, -1, 65536, math.MinInt, math.MaxInt} {
			if g, e := Scaled(p, n, 7); g != 0 || e != api.ErrArg {
				t.Errorf("Scaled(%v, %d, 7) = %d, %v", l, n, g, e)
			}
			if g, e := Scaled(p, 7, n); g != 0 || e != api.ErrArg {
				t.Errorf("Scaled(%v, 7, %d) = %d, %v", l, n, g, e)
			}
		}
	}
	for _, l := range [][]int{{8}, {65535}, {8, 0, 0}, {0, 8, 0}, {0, 0, 8}} {
		if g, e := Scaled(pack(t, l...), 7, 65535); g != 0 || e != api.ErrArg {
			t.Errorf("Scaled(%v, 7, 65535) = %d, %v", l, g, e)
		}
	}
	for _, p := range noPixels() {
		if g, e := Scaled(p, most, most); g != 0 || e != api.ErrArg {
			t.Errorf("Scaled(%d) = %d, %v", p, g, e)
		}
	}
}

func TestCompare(t *testing.T) {
	rising := []api.Pixel{0, 1, 1<<48 - 1, 1 << 48, 1<<48 + 65535, 2 << 48, 3 << 48, 3<<48 + 1, 3<<48 + 1<<16, 3<<48 + 1<<32, 1 << 63, math.MaxUint64}
	for i, a := range rising {
		for j, b := range rising {
			want := 0
			if i < j {
				want = -1
			}
			if i > j {
				want = 1
			}
			if c := Compare(a, b); c != want {
				t.Errorf("Compare(%d, %d) = %d, not %d", a, b, c, want)
			}
		}
	}
}

// P1.3

func TestPixelsAreTheSameJustOfTheSameSamples(t *testing.T) {
	of := map[api.Pixel][]int{}
	for _, l := range someLists() {
		p := pack(t, l...)
		if o, ok := of[p]; ok {
			t.Errorf("%v and %v are both %d", o, l, p)
		}
		of[p] = l
		if q := pack(t, slices.Clone(l)...); q != p || Compare(p, q) != 0 {
			t.Errorf("%v is %d, and %d", l, p, q)
		}
	}
	for p, l := range of {
		if q := pack(t, Unpack(p)...); q != p {
			t.Errorf("%v: %d, unpacked and packed, is %d", l, p, q)
		}
	}
}

func TestEveryGrayPixelComesBack(t *testing.T) {
	for s := range most + 1 {
		p := pack(t, s)
		if u := Unpack(p); len(u) != 1 || u[0] != s {
			t.Fatalf("Unpack of %d = %v", s, u)
		}
		if u := Unpack(pack(t, s, most-s, s^255)); !slices.Equal(u, []int{s, most - s, s ^ 255}) {
			t.Fatalf("Unpack of three of %d = %v", s, u)
		}
	}
}
