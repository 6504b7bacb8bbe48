package turn

import (
	"math"
	"slices"
	"testing"

	"chequer/api"
	"chequer/rect"
)

// of takes a width, and the numbers row by row.
func of(w int, l ...api.Pixel) rect.Matrix {
	return rect.Matrix{W: w, H: len(l) / w, L: l}
}

// counted has another number at each place.
func counted(w, h int) rect.Matrix {
	m := rect.Matrix{W: w, H: h, L: make([]api.Pixel, w*h)}
	for i := range m.L {
		m.L[i] = api.Pixel(i + 1)
	}
	return m
}

// shapes are of one number, of one row, of one column, as wide as high, wider, higher.
func shapes() [][2]int {
	return [][2]int{{1, 1}, {2, 1}, {5, 1}, {1, 2}, {1, 7}, {2, 2}, {3, 3}, {4, 4}, {3, 2}, {7, 4}, {2, 3}, {4, 9}}
}

// samples have, of each shape, numbers that are all others, all the same, and some that come again.
func samples() []rect.Matrix {
	var l []rect.Matrix
	for _, s := range shapes() {
		again := counted(s[0], s[1])
		for i := range again.L {
			again.L[i] = api.Pixel(i * i % 3)
		}
		l = append(l, counted(s[0], s[1]), again, rect.Matrix{W: s[0], H: s[1], L: make([]api.Pixel, s[0]*s[1])})
	}
	return l
}

// none are matrices that may not be.
func none() []rect.Matrix {
	return []rect.Matrix{
		{}, {L: make([]api.Pixel, 1)}, {W: 1, H: 1}, {W: 2, H: 3, L: make([]api.Pixel, 5)}, {W: 2, H: 3, L: make([]api.Pixel, 7)},
		{W: -1, H: -1, L: make([]api.Pixel, 1)}, {W: -2, H: -3, L: make([]api.Pixel, 6)}, {W: 4097, H: 1, L: make([]api.Pixel, 4097)},
		{W: 1, H: 65537, L: make([]api.Pixel, 65537)}, {W: 1 << 32, H: 1 << 32}, {W: math.MaxInt, H: math.MaxInt}, {W: math.MinInt, H: math.MinInt},
	}
}

// noTurns are numbers that are no turns.
func noTurns() []int {
	return []int{math.MinInt, math.MinInt + 1, -1 << 32, -9, -8, -7, -4, -1, 8, 9, 12, 15, 16, 1 << 32, 1 << 62, math.MaxInt - 1, math.MaxInt}
}

// mirrored has the columns of m from the last one on.
func mirrored(m rect.Matrix) rect.Matrix {
	o := rect.Matrix{W: m.W, H: m.H}
	for y := range m.H {
		for x := m.W - 1; x >= 0; x-- {
			o.L = append(o.L, m.L[y*m.W+x])
		}
	}
	return o
}

// righted is m, turned by a quarter to the right, whether that may be or not: its columns, from the bottom, are the rows.
func righted(m rect.Matrix) rect.Matrix {
	o := rect.Matrix{W: m.H, H: m.W}
	for x := range m.W {
		for y := m.H - 1; y >= 0; y-- {
			o.L = append(o.L, m.L[y*m.W+x])
		}
	}
	return o
}

// told is m, laid by g as the chapter's words say, one step behind the other.
func told(m rect.Matrix, g int) rect.Matrix {
	m.L = slices.Clone(m.L)
	if g >= 4 {
		m = mirrored(m)
	}
	for range g % 4 {
		m = righted(m)
	}
	return m
}

// same holds lists of nothing for one with none, as the zero matrix has it.
func same(t *testing.T, what any, got, want rect.Matrix) {
	t.Helper()
	if got.W != want.W || got.H != want.H || !slices.Equal(got.L, want.L) {
		t.Errorf("%v: %v, not %v", what, got, want)
	}
}

// lay is of what can be laid.
func lay(t *testing.T, m rect.Matrix, g int) rect.Matrix {
	t.Helper()
	laid, e := Lay(m, g)
	if e != api.OK {
		t.Errorf("%d by %d by %d: %v", m.W, m.H, g, e)
	}
	return laid
}

// refused tells the error that Lay answers, and that nothing stands beside it.
func refused(t *testing.T, m rect.Matrix, g int, want api.Errno) {
	t.Helper()
	laid, e := Lay(m, g)
	if e != want || laid.W != 0 || laid.H != 0 || len(laid.L) != 0 {
		t.Errorf("%d by %d by %d: %d by %d, of %d, %v, not %v", m.W, m.H, g, laid.W, laid.H, len(laid.L), e, want)
	}
}

// P4.1

func TestMay(t *testing.T) {
	for g := range 8 {
		if !May(g) {
			t.Errorf("%d is no turn", g)
		}
	}
	for _, g := range noTurns() {
		if May(g) {
			t.Errorf("%d is a turn", g)
		}
	}
}

func TestName(t *testing.T) {
	for g, want := range []string{"r0", "r1", "r2", "r3", "s0", "s1", "s2", "s3"} {
		if got := Name(g); got != want {
			t.Errorf("%d: %q, not %q", g, got, want)
		}
	}
	for _, g := range noTurns() {
		if got := Name(g); got != "" {
			t.Errorf("%d: %q", g, got)
		}
	}
}

func TestSize(t *testing.T) {
	for _, s := range append(shapes(), [2]int{1, 1 << 20}, [2]int{1 << 20, 1}, [2]int{1 << 20, 1 << 20}, [2]int{4096, 65536}) {
		for g := range 8 {
			want := s
			if g == 1 || g == 3 || g == 5 || g == 7 {
				want = [2]int{s[1], s[0]}
			}
			if w, h := Size(s[0], s[1], g); w != want[0] || h != want[1] {
				t.Errorf("%v by %d: %d by %d", s, g, w, h)
			}
		}
		for _, g := range noTurns() {
			if w, h := Size(s[0], s[1], g); w != 0 || h != 0 {
				t.Errorf("%v by %d: %d by %d", s, g, w, h)
			}
		}
	}
}

func TestFromCorners(t *testing.T) {
	// What then stands top left, top right, bottom left, bottom right: 0 is the first column or row, 1 the last one.
	corners := [8][4][2]int{
		{{0, 0}, {1, 0}, {0, 1}, {1, 1}},
		{{0, 1}, {0, 0}, {1, 1}, {1, 0}},
		{{1, 1}, {0, 1}, {1, 0}, {0, 0}},
		{{1, 0}, {1, 1}, {0, 0}, {0, 1}},
		{{1, 0}, {0, 0}, {1, 1}, {0, 1}},
		{{1, 1}, {1, 0}, {0, 1}, {0, 0}},
		{{0, 1}, {1, 1}, {0, 0}, {1, 0}},
		{{0, 0}, {0, 1}, {1, 0}, {1, 1}},
	}
	sides := []int{1, 2, 3, 4096, 65536, 1<<20 - 1, 1 << 20}
	for g, from := range corners {
		for _, w := range sides {
			for _, h := range sides {
				wide, high := Size(w, h, g)
				for i, to := range [4][2]int{{0, 0}, {wide - 1, 0}, {0, high - 1}, {wide - 1, high - 1}} {
					wantX, wantY := from[i][0]*(w-1), from[i][1]*(h-1)
					if x, y := From(w, h, g, to[0], to[1]); x != wantX || y != wantY {
						t.Errorf("%d by %d by %d, at %v: %d, %d, not %d, %d", w, h, g, to, x, y, wantX, wantY)
					}
				}
			}
		}
	}
}

func TestFromInside(t *testing.T) {
	const w, h = 1 << 20, 5
	for g, x := range [8]struct{ at, from [2]int }{
		{[2]int{10, 1}, [2]int{10, 1}}, {[2]int{1, 10}, [2]int{10, 3}}, {[2]int{10, 1}, [2]int{w - 11, 3}}, {[2]int{1, 10}, [2]int{w - 11, 1}},
		{[2]int{10, 1}, [2]int{w - 11, 1}}, {[2]int{1, 10}, [2]int{w - 11, 3}}, {[2]int{10, 1}, [2]int{10, 3}}, {[2]int{1, 10}, [2]int{10, 1}},
	} {
		if fromX, fromY := From(w, h, g, x.at[0], x.at[1]); fromX != x.from[0] || fromY != x.from[1] {
			t.Errorf("by %d, at %v: %d, %d, not %v", g, x.at, fromX, fromY, x.from)
		}
	}
}

func TestFromIsWhatLayDoes(t *testing.T) {
	for _, s := range shapes() {
		m := counted(s[0], s[1])
		for g := range 8 {
			want := told(m, g)
			for y := range want.H {
				for x := range want.W {
					n, _ := want.At(x, y)
					fromX, fromY := From(s[0], s[1], g, x, y)
					if stood, ok := m.At(fromX, fromY); !ok || stood != n {
						t.Errorf("%v by %d, at %d, %d: %d, %d", s, g, x, y, fromX, fromY)
					}
				}
			}
		}
	}
}

func TestFromOfNoTurn(t *testing.T) {
	for _, g := range noTurns() {
		for _, s := range [][4]int{{1, 1, 0, 0}, {3, 2, 1, 1}, {3, 2, 2, 1}, {1 << 20, 1 << 20, 1<<20 - 1, 7}} {
			if x, y := From(s[0], s[1], g, s[2], s[3]); x != 0 || y != 0 {
				t.Errorf("%v by %d: %d, %d", s, g, x, y)
			}
		}
	}
}

func TestLayExamples(t *testing.T) {
	square, wide := of(2, 1, 2, 3, 4), of(3, 1, 2, 3, 4, 5, 6)
	for _, x := range []struct {
		m    rect.Matrix
		g    int
		want rect.Matrix
	}{
		{square, 1, of(2, 3, 1, 4, 2)}, {square, 4, of(2, 2, 1, 4, 3)},
		{wide, 0, of(3, 1, 2, 3, 4, 5, 6)}, {wide, 1, of(2, 4, 1, 5, 2, 6, 3)}, {wide, 2, of(3, 6, 5, 4, 3, 2, 1)}, {wide, 3, of(2, 3, 6, 2, 5, 1, 4)},
		{wide, 4, of(3, 3, 2, 1, 6, 5, 4)}, {wide, 5, of(2, 6, 3, 5, 2, 4, 1)}, {wide, 6, of(3, 4, 5, 6, 1, 2, 3)}, {wide, 7, of(2, 1, 4, 2, 5, 3, 6)},
		{of(1, 9), 3, of(1, 9)}, {of(1, 9), 7, of(1, 9)},
		{of(3, 1, 2, 3), 1, of(1, 1, 2, 3)}, {of(3, 1, 2, 3), 3, of(1, 3, 2, 1)}, {of(3, 1, 2, 3), 5, of(1, 3, 2, 1)}, {of(3, 1, 2, 3), 6, of(3, 1, 2, 3)},
		{of(1, 1, 2, 3), 1, of(3, 3, 2, 1)}, {of(1, 1, 2, 3), 3, of(3, 1, 2, 3)}, {of(1, 1, 2, 3), 4, of(1, 1, 2, 3)}, {of(1, 1, 2, 3), 2, of(1, 3, 2, 1)},
		{of(2, math.MaxUint64, 1<<63), 2, of(2, 1<<63, math.MaxUint64)}, {of(2, 0, math.MaxUint64), 1, of(1, 0, math.MaxUint64)},
	} {
		same(t, [2]any{x.m, x.g}, lay(t, x.m, x.g), x.want)
	}
}

func TestLay(t *testing.T) {
	for _, m := range samples() {
		for g := range 8 {
			same(t, [2]any{m, g}, lay(t, m, g), told(m, g))
		}
	}
}

func TestLayOfNoTurn(t *testing.T) {
	tooHigh := counted(1, 4097)
	for _, g := range noTurns() {
		for _, m := range append(samples(), tooHigh) { // ErrArg is named first
			refused(t, m, g, api.ErrArg)
		}
	}
}

func TestLayOfNone(t *testing.T) {
	for _, m := range none() {
		for _, g := range append(noTurns(), 0, 1, 2, 3, 4, 5, 6, 7) {
			refused(t, m, g, api.ErrArg)
		}
	}
}

func TestLayTooWide(t *testing.T) {
	for _, x := range []struct {
		w, h int
		may  bool
	}{
		{1, 4096, true}, {1, 4097, false}, {1, 65536, false}, {3, 4095, true}, {3, 4096, true}, {3, 4097, false},
		{4096, 1, true}, {4096, 2, true}, {4095, 3, true},
	} {
		m := counted(x.w, x.h)
		for g := range 8 {
			if g%2 == 1 && !x.may {
				refused(t, m, g, api.ErrRange)
				continue
			}
			if laid := lay(t, m, g); !rect.Same(laid, told(m, g)) {
				t.Errorf("%d by %d by %d is another one", x.w, x.h, g)
			}
		}
	}
}

func TestLayGreatest(t *testing.T) {
	high, square := counted(256, 65536), counted(4096, 4096)
	for _, g := range []int{1, 3, 5, 7} {
		refused(t, high, g, api.ErrRange)
	}
	for _, x := range []struct {
		m           rect.Matrix
		g           int
		first, last api.Pixel
	}{
		{high, 2, 1 << 24, 1}, {high, 6, 65535*256 + 1, 256}, {square, 1, 4095*4096 + 1, 4096}, {square, 7, 1, 1 << 24},
	} {
		laid := lay(t, x.m, x.g)
		if laid.W != x.m.W || laid.H != x.m.H || !rect.May(laid) || laid.L[0] != x.first || laid.L[1<<24-1] != x.last {
			t.Errorf("%d by %d by %d: %d by %d", x.m.W, x.m.H, x.g, laid.W, laid.H)
		}
	}
}

func TestLayIsNew(t *testing.T) {
	for g := range 8 {
		all := []api.Pixel{1, 2, 3, 4, 5, 6, 7}
		m := rect.Matrix{W: 3, H: 2, L: all[:6]}
		laid := lay(t, m, g)
		want := told(m, g)
		all[1] = 9
		same(t, g, laid, want)
		laid.L[0] = 8
		_ = append(laid.L, 8)
		if !slices.Equal(all, []api.Pixel{1, 9, 3, 4, 5, 6, 7}) {
			t.Errorf("by %d: what was handed in was changed: %v", g, all)
		}
		if again := lay(t, of(3, 1, 2, 3, 4, 5, 6), g); !rect.Same(again, want) {
			t.Errorf("by %d: what was answered is kept: %v", g, again)
		}
	}
}

// P4.2

func TestThen(t *testing.T) {
	want := [8][8]int{
		{0, 1, 2, 3, 4, 5, 6, 7},
		{1, 2, 3, 0, 7, 4, 5, 6},
		{2, 3, 0, 1, 6, 7, 4, 5},
		{3, 0, 1, 2, 5, 6, 7, 4},
		{4, 5, 6, 7, 0, 1, 2, 3},
		{5, 6, 7, 4, 3, 0, 1, 2},
		{6, 7, 4, 5, 2, 3, 0, 1},
		{7, 4, 5, 6, 1, 2, 3, 0},
	}
	for g := range 8 {
		for h := range 8 {
			if got := Then(g, h); got != want[g][h] {
				t.Errorf("%d, then %d: %d, not %d", g, h, got, want[g][h])
			}
		}
	}
}

func TestBack(t *testing.T) {
	for g, want := range []int{0, 3, 2, 1, 4, 5, 6, 7} {
		if got := Back(g); got != want {
			t.Errorf("%d: %d, not %d", g, got, want)
		}
	}
}

func TestThenAndBackOfNoTurns(t *testing.T) {
	for _, n := range noTurns() {
		if got := Back(n); got != -1 {
			t.Errorf("back of %d: %d", n, got)
		}
		for g := range 8 {
			if a, b := Then(n, g), Then(g, n); a != -1 || b != -1 {
				t.Errorf("%d and %d: %d, %d", n, g, a, b)
			}
		}
		for _, k := range noTurns() {
			if got := Then(n, k); got != -1 {
				t.Errorf("%d, then %d: %d", n, k, got)
			}
		}
	}
}

// P4.3

func TestOrbitExamples(t *testing.T) {
	square := of(2, 1, 2, 2, 1)
	other := of(2, 2, 1, 1, 2)
	row := of(3, 1, 2, 3)
	high := counted(1, 4097)
	for _, x := range []struct {
		m      rect.Matrix
		turns  []int
		laid   []rect.Matrix
		places []int
	}{
		{square, nil, nil, nil},
		{square, []int{}, nil, nil},
		{square, []int{0}, []rect.Matrix{square}, []int{0}},
		{square, []int{3}, []rect.Matrix{other}, []int{0}},
		{square, []int{3, 3, 3}, []rect.Matrix{other}, []int{0, 0, 0}},
		{square, []int{0, 9, 1, 2, 4}, []rect.Matrix{square, other}, []int{0, -1, 1, 0, 1}},
		{square, []int{0, 1, 2, 3, 4, 5, 6, 7}, []rect.Matrix{square, other}, []int{0, 1, 0, 1, 1, 0, 1, 0}},
		{square, []int{7, 6, 5, 4, 3, 2, 1, 0}, []rect.Matrix{square, other}, []int{0, 1, 0, 1, 1, 0, 1, 0}},
		{square, []int{6, 0}, []rect.Matrix{other, square}, []int{0, 1}},
		{square, []int{-1}, nil, []int{-1}},
		{square, []int{8, math.MinInt, math.MaxInt, -1}, nil, []int{-1, -1, -1, -1}},
		{square, []int{math.MaxInt, 1, math.MinInt, 1, 8, 0, -8}, []rect.Matrix{other, square}, []int{-1, 0, -1, 0, -1, 1, -1}},
		{row, []int{2, 0, 4, 6, 2}, []rect.Matrix{of(3, 3, 2, 1), row}, []int{0, 1, 0, 1, 0}},
		{row, []int{0, 1, 7}, []rect.Matrix{row, of(1, 1, 2, 3)}, []int{0, 1, 1}},
		{high, []int{1, 3, 5, 7}, nil, []int{-1, -1, -1, -1}},
		{high, []int{1, 6, 3, 8, 4, 0, 1, 2}, []rect.Matrix{told(high, 6), high}, []int{-1, 0, -1, -1, 1, 1, -1, 0}},
		{of(1, 7), []int{5, 1, 3}, []rect.Matrix{of(1, 7)}, []int{0, 0, 0}},
		{of(2, 0, 0), []int{1, 0}, []rect.Matrix{of(1, 0, 0), of(2, 0, 0)}, []int{0, 1}}, // the same numbers, of other sides
		{of(2, math.MaxUint64, 0), []int{0, 4}, []rect.Matrix{of(2, math.MaxUint64, 0), of(2, 0, math.MaxUint64)}, []int{0, 1}},
	} {
		laid, places := Orbit(x.m, x.turns...)
		if !slices.Equal(places, x.places) || !slices.EqualFunc(laid, x.laid, rect.Same) {
			t.Errorf("%d by %d, %v: %d matrices, %v", x.m.W, x.m.H, x.turns, len(laid), places)
		}
	}
}

func TestOrbit(t *testing.T) {
	rows := [][]int{{0, 1, 2, 3, 4, 5, 6, 7}, {7, 6, 5, 4, 3, 2, 1, 0}, {3, 3, 0, -1, 4, 8, 4, 2, 6, 0}, {5, 2}, {1}}
	for _, m := range append(samples(), counted(2, 4097)) {
		for _, turns := range rows {
			var want []rect.Matrix
			laid, places := Orbit(m, turns...)
			if len(places) != len(turns) {
				t.Fatalf("%v: %v", turns, places)
			}
			for i, g := range turns {
				place := -1
				if May(g) && (g%2 == 0 || m.H <= 4096) {
					one := told(m, g)
					place = slices.IndexFunc(want, func(o rect.Matrix) bool { return rect.Same(o, one) })
					if place == -1 {
						place = len(want)
						want = append(want, one)
					}
				}
				if places[i] != place {
					t.Errorf("%d by %d, %v: %v, not %d at %d", m.W, m.H, turns, places, place, i)
				}
			}
			if !slices.EqualFunc(laid, want, rect.Same) {
				t.Errorf("%d by %d, %v: %d matrices, not %d", m.W, m.H, turns, len(laid), len(want))
			}
		}
	}
}

func TestOrbitOfManyTurns(t *testing.T) {
	m := counted(64, 64)
	turns := slices.Repeat([]int{2, -1, 5, 0, 2, 7}, 1<<16)
	laid, places := Orbit(m, turns...)
	if len(laid) != 4 || !slices.Equal(places, slices.Repeat([]int{0, -1, 1, 2, 0, 3}, 1<<16)) {
		t.Errorf("%d matrices", len(laid))
	}
}

func TestOrbitOfNone(t *testing.T) {
	for _, m := range none() {
		laid, places := Orbit(m, 0, 8, 1, 0)
		if len(laid) != 0 || !slices.Equal(places, []int{-1, -1, -1, -1}) {
			t.Errorf("%d by %d: %v, %v", m.W, m.H, laid, places)
		}
		if got := Same(m); len(got) != 0 {
			t.Errorf("%d by %d: %v", m.W, m.H, got)
		}
	}
}

func TestOrbitIsNew(t *testing.T) {
	all := []api.Pixel{1, 2, 3, 4, 5}
	turns := []int{0, 1, 2, 0, 4}
	m := rect.Matrix{W: 2, H: 2, L: all[:4]}
	want := []rect.Matrix{of(2, 1, 2, 3, 4), of(2, 3, 1, 4, 2), of(2, 4, 3, 2, 1)}
	laid, places := Orbit(m, turns[:4]...)
	all[0], turns[0] = 9, 7
	if !slices.EqualFunc(laid, want, rect.Same) || !slices.Equal(places, []int{0, 1, 2, 0}) {
		t.Errorf("behind a change of what was handed in: %v, %v", laid, places)
	}
	for i := range laid {
		laid[i].L[0] = 8
		_ = append(laid[i].L, 8)
		if i+1 < len(laid) && !rect.Same(laid[i+1], want[i+1]) {
			t.Errorf("two of one answer share their numbers: %v", laid)
		}
	}
	places[0] = 5
	_ = append(places, 5)
	if !slices.Equal(all, []api.Pixel{9, 2, 3, 4, 5}) || !slices.Equal(turns, []int{7, 1, 2, 0, 4}) {
		t.Errorf("what was handed in was changed: %v, %v", all, turns)
	}
	if again, at := Orbit(of(2, 1, 2, 3, 4), 0, 1, 2, 0); !slices.EqualFunc(again, want, rect.Same) || !slices.Equal(at, []int{0, 1, 2, 0}) {
		t.Errorf("what was answered is kept: %v, %v", again, at)
	}
}

func TestSame(t *testing.T) {
	for _, x := range []struct {
		what string
		m    rect.Matrix
		want []int
	}{
		{"one number", of(1, 5), []int{0, 1, 2, 3, 4, 5, 6, 7}},
		{"all the same, as wide as high", of(2, 5, 5, 5, 5), []int{0, 1, 2, 3, 4, 5, 6, 7}},
		{"all the same, wider", of(3, 5, 5, 5, 5, 5, 5), []int{0, 2, 4, 6}},
		{"all the same, one column", of(1, 5, 5), []int{0, 2, 4, 6}},
		{"all others", of(2, 1, 2, 3, 4), []int{0}},
		{"all others, wider", of(3, 1, 2, 3, 4, 5, 6), []int{0}},
		{"one row of others", of(3, 1, 2, 3), []int{0, 6}},
		{"one row, mirrored", of(3, 1, 2, 1), []int{0, 2, 4, 6}},
		{"one column of others", of(1, 1, 2, 3), []int{0, 4}},
		{"mirrored left and right", of(3, 1, 2, 1, 3, 4, 3), []int{0, 4}},
		{"mirrored left and right, as wide as high", of(2, 1, 1, 2, 2), []int{0, 4}},
		{"mirrored top and bottom", of(2, 1, 2, 3, 4, 1, 2), []int{0, 6}},
		{"mirrored top and bottom, as wide as high", of(2, 1, 2, 1, 2), []int{0, 6}},
		{"mirrored both ways", of(3, 1, 2, 1, 3, 4, 3, 1, 2, 1), []int{0, 2, 4, 6}},
		{"mirrored across", of(2, 1, 2, 2, 3), []int{0, 7}},
		{"mirrored the other way across", of(2, 2, 1, 3, 2), []int{0, 5}},
		{"mirrored across both ways", of(2, 1, 2, 2, 1), []int{0, 2, 5, 7}},
		{"turned by a half", of(3, 1, 2, 3, 3, 2, 1), []int{0, 2}},
		{"turned by a half, as wide as high", of(3, 1, 2, 3, 4, 5, 4, 3, 2, 1), []int{0, 2}},
		{"turned by a quarter", of(4, 1, 2, 3, 1, 3, 4, 4, 2, 2, 4, 4, 3, 1, 3, 2, 1), []int{0, 1, 2, 3}},
		{"turned by a quarter, and mirrored", of(3, 1, 2, 1, 2, 3, 2, 1, 2, 1), []int{0, 1, 2, 3, 4, 5, 6, 7}},
		{"no pixels", of(2, math.MaxUint64, 1<<63, math.MaxUint64, 1<<63), []int{0, 6}},
		{"higher than wide may be", rect.Matrix{W: 1, H: 4097, L: make([]api.Pixel, 4097)}, []int{0, 2, 4, 6}},
	} {
		if got := Same(x.m); !slices.Equal(got, x.want) {
			t.Errorf("%s: %v, not %v", x.what, got, x.want)
		}
	}
}

func TestSameIsWhatLaysSo(t *testing.T) {
	for _, m := range samples() {
		var want []int
		for g := range 8 {
			if rect.Same(told(m, g), m) {
				want = append(want, g)
			}
		}
		kept := slices.Clone(m.L)
		got := Same(m)
		if !slices.Equal(got, want) || !slices.Equal(m.L, kept) {
			t.Errorf("%v: %v, not %v", m, got, want)
		}
		got[0] = 9
		if again := Same(m); !slices.Equal(again, want) {
			t.Errorf("what was answered is kept: %v", again)
		}
	}
}

// P4.4

func TestLaidAndLaidBack(t *testing.T) {
	for _, m := range append(samples(), counted(4096, 3), counted(5, 4096)) {
		for g := range 8 {
			if back := lay(t, lay(t, m, g), Back(g)); !rect.Same(back, m) {
				t.Errorf("%d by %d by %d, and by %d", m.W, m.H, g, Back(g))
			}
			if back := lay(t, lay(t, m, Back(g)), g); !rect.Same(back, m) {
				t.Errorf("%d by %d by %d, and by %d", m.W, m.H, Back(g), g)
			}
		}
	}
	high := counted(2, 4097)
	for g := 0; g < 8; g += 2 {
		if back := lay(t, lay(t, high, g), Back(g)); !rect.Same(back, high) {
			t.Errorf("2 by 4097 by %d, and back", g)
		}
	}
}

func TestOneBehindTheOther(t *testing.T) {
	for _, m := range samples() {
		for g := range 8 {
			for h := range 8 {
				both := lay(t, lay(t, m, g), h)
				if !rect.Same(both, lay(t, m, Then(g, h))) {
					t.Errorf("%v by %d, then by %d: %v", m, g, h, both)
				}
				w, high := Size(m.W, m.H, g)
				w, high = Size(w, high, h)
				if toldW, toldH := Size(m.W, m.H, Then(g, h)); w != toldW || high != toldH {
					t.Errorf("%d by %d by %d, then by %d: %d by %d", m.W, m.H, g, h, w, high)
				}
			}
		}
	}
}
