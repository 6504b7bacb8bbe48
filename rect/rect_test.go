package rect

import (
	"math"
	"slices"
	"testing"

	"chequer/api"
	"chequer/pix"
)

// of takes a width, and the numbers row by row.
func of(w int, l ...api.Pixel) Matrix {
	return Matrix{W: w, H: len(l) / w, L: l}
}

// counted has another number at each place.
func counted(w, h int) Matrix {
	m := Matrix{W: w, H: h, L: make([]api.Pixel, w*h)}
	for i := range m.L {
		m.L[i] = api.Pixel(i + 1)
	}
	return m
}

// samples are matrices that may be, of some shapes, with numbers that come again and such that do not.
func samples() []Matrix {
	var l []Matrix
	for _, s := range [][2]int{{1, 1}, {1, 2}, {2, 1}, {2, 2}, {3, 2}, {2, 3}, {1, 5}, {5, 1}, {4, 4}, {7, 5}} {
		m := counted(s[0], s[1])
		again := counted(s[0], s[1])
		for i := range again.L {
			again.L[i] = api.Pixel(i * i % 3)
		}
		l = append(l, m, again, Matrix{W: s[0], H: s[1], L: make([]api.Pixel, s[0]*s[1])})
	}
	return l
}

// none are matrices that may not be.
func none() []Matrix {
	l := func(n int) []api.Pixel { return make([]api.Pixel, n) }
	return []Matrix{
		{}, {L: l(1)}, {W: 1, L: l(1)}, {H: 1, L: l(1)}, {W: 1}, {H: 1}, {W: 1, H: 1}, {W: 1, H: 1, L: l(2)},
		{W: 2, H: 3, L: l(5)}, {W: 2, H: 3, L: l(7)}, {W: -1, H: -1, L: l(1)}, {W: -2, H: 3}, {W: 2, H: -3}, {W: -2, H: -3, L: l(6)},
		{W: 4097, H: 1, L: l(4097)}, {W: 1, H: 65537, L: l(65537)},
		{W: 1 << 32, H: 1 << 32}, {W: 1 << 62, H: 4}, {W: 4, H: 1 << 62}, // their products wrap round to 0
		{W: math.MaxInt, H: math.MaxInt, L: l(1)}, {W: math.MinInt, H: math.MinInt}, {W: math.MinInt, H: 2},
	}
}

// far are ints that are nothing's place.
func far() []int {
	return []int{math.MinInt, math.MinInt + 1, -1 << 32, -65537, -1, 1 << 32, 1 << 62, math.MaxInt - 1, math.MaxInt}
}

// same holds lists of nothing for one with none, as the zero matrix has it.
func same(t *testing.T, what any, got, want Matrix) {
	t.Helper()
	if got.W != want.W || got.H != want.H || !slices.Equal(got.L, want.L) {
		t.Errorf("%v: %v, not %v", what, got, want)
	}
}

// refused is how each call that can refuse does so.
func refused(t *testing.T, what any, m Matrix, e api.Errno) {
	t.Helper()
	same(t, what, m, Matrix{})
	if e != api.ErrArg {
		t.Errorf("%v: %v, not %v", what, e, api.ErrArg)
	}
}

// P3.1

func TestMay(t *testing.T) {
	for _, m := range samples() {
		if !May(m) {
			t.Errorf("%v may not be", m)
		}
	}
	for _, m := range none() {
		if May(m) {
			t.Errorf("%d by %d, of %d, may be", m.W, m.H, len(m.L))
		}
	}
	if !May(of(2, 0, 1, 1<<63, math.MaxUint64)) {
		t.Error("numbers that are no pixels are not let")
	}
}

// sides tells which sides may be those of a matrix.
var sides = []struct {
	w, h int
	may  bool
}{
	{1, 1, true}, {4096, 1, true}, {1, 65536, true}, {3, 5, true}, {256, 65536, true}, {4096, 4096, true},
	{0, 0, false}, {0, 1, false}, {1, 0, false}, {-1, 1, false}, {1, -1, false}, {-1, -1, false}, {-2, -3, false},
	{4097, 1, false}, {1, 65537, false}, {4097, 65537, false}, {4096, 4097, false}, {257, 65536, false}, {4096, 65536, false},
	{257, 65281, false}, {4095, 4098, false}, {65536, 1, false}, {65536, 256, false}, {math.MinInt, 1, false}, {1, math.MinInt, false},
	{math.MaxInt, math.MaxInt, false}, {math.MinInt, math.MinInt, false}, {1 << 32, 1 << 32, false},
}

func TestMaySides(t *testing.T) {
	room := make([]api.Pixel, 1<<24+1<<16)
	for _, s := range sides {
		n := s.w * s.h
		if n < 0 || n > len(room) {
			n = 0
		}
		if got := May(Matrix{W: s.w, H: s.h, L: room[:n]}); got != s.may {
			t.Errorf("%d by %d: %v", s.w, s.h, got)
		}
		if s.may && (May(Matrix{W: s.w, H: s.h, L: room[:n-1]}) || May(Matrix{W: s.w, H: s.h, L: room[:n+1]})) {
			t.Errorf("%d by %d with one number too few, or too many", s.w, s.h)
		}
	}
}

func TestNew(t *testing.T) {
	for _, s := range sides {
		m, e := New(s.w, s.h)
		if !s.may {
			refused(t, s, m, e)
			continue
		}
		if e != api.OK || m.W != s.w || m.H != s.h || len(m.L) != s.w*s.h {
			t.Errorf("%v: %d by %d, of %d, %v", s, m.W, m.H, len(m.L), e)
		}
		if slices.ContainsFunc(m.L, func(p api.Pixel) bool { return p != 0 }) {
			t.Errorf("%v: not of noughts", s)
		}
	}
	a, _ := New(2, 2)
	a.L[3] = 7
	if b, _ := New(2, 2); b.L[3] != 0 {
		t.Error("two new ones share their numbers")
	}
}

func TestOf(t *testing.T) {
	for _, x := range []struct {
		rows [][]api.Pixel
		want Matrix
	}{
		{[][]api.Pixel{{1}}, of(1, 1)},
		{[][]api.Pixel{{1, 2}, {3, 4}}, of(2, 1, 2, 3, 4)},
		{[][]api.Pixel{{1, 2, 3}, {4, 5, 6}}, of(3, 1, 2, 3, 4, 5, 6)},
		{[][]api.Pixel{{1}, {2}, {3}}, of(1, 1, 2, 3)},
		{[][]api.Pixel{{math.MaxUint64, 0}}, of(2, math.MaxUint64, 0)},
	} {
		m, e := Of(x.rows...)
		same(t, x.rows, m, x.want)
		if e != api.OK {
			t.Errorf("%v: %v", x.rows, e)
		}
	}
}

func TestOfRefused(t *testing.T) {
	for _, rows := range [][][]api.Pixel{
		nil, {}, {nil}, {{}}, {nil, {}}, {{1}, {}}, {{}, {1}}, {{1}, {1, 2}}, {{1, 2}, {1}}, {{1, 2}, {1, 2}, {1}},
		{make([]api.Pixel, 4097)}, {make([]api.Pixel, 4097), {1}},
	} {
		m, e := Of(rows...)
		refused(t, len(rows), m, e)
	}
	m, e := Of()
	refused(t, "no row", m, e)
}

func TestOfEdges(t *testing.T) {
	row := make([]api.Pixel, 4097)
	rows := func(n, w int) [][]api.Pixel {
		return slices.Repeat([][]api.Pixel{row[:w]}, n)
	}
	for _, s := range sides {
		if s.h < 0 || s.h > 65537 || s.w < 0 || s.w > 4097 {
			continue
		}
		m, e := Of(rows(s.h, s.w)...)
		if !s.may {
			refused(t, s, m, e)
			continue
		}
		if e != api.OK || m.W != s.w || m.H != s.h || len(m.L) != s.w*s.h {
			t.Errorf("%v: %d by %d, of %d, %v", s, m.W, m.H, len(m.L), e)
		}
	}
}

func TestOfIsNew(t *testing.T) {
	all := []api.Pixel{1, 2, 3, 4, 5}
	rows := [][]api.Pixel{all[:2], all[2:4], {6, 7}}
	m, _ := Of(rows...)
	all[0], all[3] = 9, 9
	rows[2] = nil
	same(t, "behind a change of the rows", m, of(2, 1, 2, 3, 4, 6, 7))
	m.L[1] = 8
	_ = append(m.L, 8)
	if !slices.Equal(all, []api.Pixel{9, 2, 3, 9, 5}) {
		t.Errorf("the rows were changed: %v", all)
	}
}

func TestSame(t *testing.T) {
	a := of(2, 1, 2, 3, 4)
	for _, x := range []struct {
		a, b Matrix
		want bool
	}{
		{a, a, true}, {a, of(2, 1, 2, 3, 4), true}, {a, of(4, 1, 2, 3, 4), false}, {a, of(1, 1, 2, 3, 4), false},
		{a, of(2, 1, 2, 3, 5), false}, {a, of(2, 0, 2, 3, 4), false}, {a, of(2, 1, 2), false}, {a, Matrix{}, false},
		{Matrix{}, Matrix{}, true}, {Matrix{}, Matrix{L: []api.Pixel{}}, true}, {Matrix{W: -1}, Matrix{W: -1}, true},
		{Matrix{W: 2, H: 3}, Matrix{W: 2, H: 3}, true}, {Matrix{W: 2, H: 3}, Matrix{W: 3, H: 2}, false},
		{Matrix{W: 2, H: 3}, Matrix{W: 2, H: 2}, false}, {Matrix{W: 2, H: 3}, Matrix{W: 1, H: 3}, false}, {Matrix{W: 2, H: 3}, Matrix{W: 2, H: 3, L: []api.Pixel{0}}, false},
		{Matrix{W: 0, H: 1, L: a.L}, Matrix{W: 0, H: 2, L: a.L}, false},
	} {
		if Same(x.a, x.b) != x.want || Same(x.b, x.a) != x.want {
			t.Errorf("%v and %v: not %v", x.a, x.b, x.want)
		}
	}
}

// P3.2

func TestAt(t *testing.T) {
	for _, m := range samples() {
		for y := -2; y <= m.H+1; y++ {
			for x := -2; x <= m.W+1; x++ {
				var want api.Pixel
				there := x >= 0 && x < m.W && y >= 0 && y < m.H
				if there {
					want = m.L[y*m.W+x]
				}
				if p, is := m.At(x, y); p != want || is != there {
					t.Errorf("%v at %d, %d: %d, %v", m, x, y, p, is)
				}
			}
		}
		for _, n := range far() {
			for _, at := range [][2]int{{n, 0}, {0, n}, {n, n}} {
				if p, is := m.At(at[0], at[1]); p != 0 || is {
					t.Errorf("%v at %v: %d, %v", m, at, p, is)
				}
			}
		}
	}
}

func TestRowAndCol(t *testing.T) {
	m := of(3, 1, 2, 3, 4, 5, 6)
	for _, x := range []struct {
		got, want []api.Pixel
	}{
		{m.Row(0), []api.Pixel{1, 2, 3}}, {m.Row(1), []api.Pixel{4, 5, 6}}, {m.Row(2), nil}, {m.Row(-1), nil},
		{m.Col(0), []api.Pixel{1, 4}}, {m.Col(1), []api.Pixel{2, 5}}, {m.Col(2), []api.Pixel{3, 6}}, {m.Col(3), nil}, {m.Col(-1), nil},
	} {
		if !slices.Equal(x.got, x.want) {
			t.Errorf("%v, not %v", x.got, x.want)
		}
	}
	for _, n := range far() {
		if len(m.Row(n)) != 0 || len(m.Col(n)) != 0 {
			t.Errorf("row %v, column %v at %d", m.Row(n), m.Col(n), n)
		}
	}
}

// part is told number by number.
func part(m Matrix, x, y, w, h int) (Matrix, bool) {
	s := Matrix{W: w, H: h}
	for j := y; j < y+h; j++ {
		for i := x; i < x+w; i++ {
			if i < 0 || i >= m.W || j < 0 || j >= m.H {
				return Matrix{}, false
			}
			s.L = append(s.L, m.L[j*m.W+i])
		}
	}
	if w < 1 || h < 1 {
		return Matrix{}, false
	}
	return s, true
}

func TestSub(t *testing.T) {
	for _, m := range []Matrix{counted(1, 1), counted(3, 2), counted(2, 4), counted(1, 3), counted(3, 1)} {
		for y := -2; y <= m.H+1; y++ {
			for x := -2; x <= m.W+1; x++ {
				for h := -1; h <= m.H+2; h++ {
					for w := -1; w <= m.W+2; w++ {
						want, there := part(m, x, y, w, h)
						got, is := m.Sub(x, y, w, h)
						same(t, [4]int{x, y, w, h}, got, want)
						if is != there {
							t.Errorf("%v of %v: %v", [4]int{x, y, w, h}, m, is)
						}
					}
				}
			}
		}
	}
}

func TestSubFar(t *testing.T) {
	m := counted(3, 2)
	for _, n := range far() {
		for _, k := range append(far(), 0, 1) {
			for _, s := range [][4]int{{n, k, 1, 1}, {k, n, 1, 1}, {0, 0, n, k}, {0, 0, k, n}, {n, 0, k, 1}, {k, 0, n, 1}, {0, n, 1, k}, {0, k, 1, n}, {n, k, n, k}, {k, n, n, k}} {
				if got, is := m.Sub(s[0], s[1], s[2], s[3]); is || got.W != 0 || got.H != 0 || len(got.L) != 0 {
					t.Errorf("%v: %v, %v", s, got, is)
				}
			}
		}
	}
	for _, s := range [][4]int{{1, 0, math.MaxInt, 1}, {2, 0, math.MaxInt - 1, 1}, {0, 1, 1, math.MaxInt}, {math.MaxInt, 0, 1, 1}, {math.MaxInt, 0, math.MaxInt, 1}} {
		if got, is := m.Sub(s[0], s[1], s[2], s[3]); is || len(got.L) != 0 {
			t.Errorf("%v, whose sum wraps round: %v", s, got)
		}
	}
}

func TestHas(t *testing.T) {
	m := of(4,
		1, 1, 1, 2,
		1, 1, 2, 1,
		1, 2, 1, 1)
	for _, x := range []struct {
		o    Matrix
		x, y int
		want bool
	}{
		{m, 0, 0, true}, {m, 1, 0, false}, {m, 0, 1, false}, {m, -1, 0, false}, {m, 0, -1, false},
		{of(2, 1, 1, 1, 1), 0, 0, true}, {of(2, 1, 1, 1, 1), 1, 0, false}, {of(2, 1, 2, 2, 1), 1, 1, true}, {of(2, 1, 2, 2, 1), 2, 0, true},
		{of(2, 1, 2, 2, 1), 3, 0, false}, {of(2, 1, 2, 2, 1), 2, 2, false}, {of(2, 1, 2, 2, 1), 0, 1, false},
		{of(1, 2), 3, 0, true}, {of(1, 1), 3, 2, true}, {of(1, 1), 4, 2, false}, {of(1, 1), 3, 3, false}, {of(1, 1), -1, 1, false},
		{of(5, 1, 1, 1, 2, 1), 0, 0, false}, {of(1, 1, 1, 1, 2), 0, 0, false}, {of(1, 1, 1, 1), 0, 0, true}, {of(4, 1, 1, 2, 1), 0, 1, true},
		{of(1, 1), math.MaxInt, 0, false}, {of(1, 1), 0, math.MaxInt, false}, {of(1, 1), math.MinInt, math.MinInt, false},
		{Matrix{}, 0, 0, false}, {Matrix{W: 2, H: 1, L: []api.Pixel{1}}, 0, 0, false}, {Matrix{W: 1, H: 1, L: []api.Pixel{1, 1}}, 0, 0, false},
		{Matrix{W: 0, H: 1}, 0, 0, false}, {Matrix{W: -1, H: -1, L: []api.Pixel{1}}, 1, 1, false},
	} {
		if got := m.Has(x.o, x.x, x.y); got != x.want {
			t.Errorf("%v at %d, %d: %v", x.o, x.x, x.y, got)
		}
	}
}

func TestFind(t *testing.T) {
	m := of(4,
		1, 1, 1, 2,
		1, 1, 2, 1,
		1, 2, 1, 1)
	for _, x := range []struct {
		o    Matrix
		want [][2]int
	}{
		{m, [][2]int{{0, 0}}},
		{of(1, 2), [][2]int{{3, 0}, {2, 1}, {1, 2}}},
		{of(2, 1, 1), [][2]int{{0, 0}, {1, 0}, {0, 1}, {2, 2}}},
		{of(1, 1, 1), [][2]int{{0, 0}, {1, 0}, {0, 1}, {3, 1}}},
		{of(2, 1, 2, 2, 1), [][2]int{{2, 0}, {1, 1}}},
		{of(2, 1, 1, 1, 1), [][2]int{{0, 0}}},
		{of(4, 1, 2, 1, 1), [][2]int{{0, 2}}},
		{of(1, 2, 1, 1), [][2]int{{3, 0}}},
		{of(1, 3), nil}, {of(2, 2, 2), nil},
		{of(5, 1, 1, 1, 2, 1), nil}, {of(1, 1, 1, 1, 1), nil},
		{of(2, 1, 1, 1, 1, 1, 2, 2, 1), nil},
		{Matrix{}, nil}, {Matrix{W: 1, H: 1}, nil}, {Matrix{W: 1, H: 1, L: []api.Pixel{1, 1}}, nil}, {Matrix{W: 2, H: 1, L: []api.Pixel{1}}, nil},
	} {
		if got := m.Find(x.o); !slices.Equal(got, x.want) {
			t.Errorf("%v: %v, not %v", x.o, got, x.want)
		}
	}
	if got := of(2, 1, 2, 3, 4).Find(of(1, 4)); !slices.Equal(got, [][2]int{{1, 1}}) {
		t.Errorf("the chapter's example: %v", got)
	}
}

func TestFindOverlapping(t *testing.T) {
	m, _ := New(4, 3)
	o, _ := New(2, 2)
	if got := m.Find(o); !slices.Equal(got, [][2]int{{0, 0}, {1, 0}, {2, 0}, {0, 1}, {1, 1}, {2, 1}}) {
		t.Errorf("noughts in noughts: %v", got)
	}
}

func TestFindIsWhatSubAndHasTell(t *testing.T) {
	for _, m := range samples() {
		for _, o := range samples() {
			var want [][2]int
			for y := -1; y <= m.H; y++ {
				for x := -1; x <= m.W; x++ {
					s, is := part(m, x, y, o.W, o.H)
					here := is && Same(s, o)
					if here {
						want = append(want, [2]int{x, y})
					}
					if m.Has(o, x, y) != here {
						t.Errorf("%v has %v at %d, %d: not %v", m, o, x, y, here)
					}
				}
			}
			if got := m.Find(o); !slices.Equal(got, want) {
				t.Errorf("%v in %v: %v, not %v", o, m, got, want)
			}
		}
	}
}

func TestFindInTheGreatest(t *testing.T) {
	m, _ := New(4096, 4096)
	m.L[1<<24-1] = 5
	if got := m.Find(of(1, 5)); !slices.Equal(got, [][2]int{{4095, 4095}}) {
		t.Errorf("%v", got)
	}
	if p, is := m.At(4095, 4095); p != 5 || !is {
		t.Errorf("%d, %v", p, is)
	}
	if !m.Has(m, 0, 0) || m.Has(m, 0, 1) {
		t.Error("the greatest one is not in itself once")
	}
}

// No promise is made of these, but that nothing panics.
func TestOfWhatMayNotBe(t *testing.T) {
	m := counted(2, 2)
	for _, o := range none() {
		for _, n := range append(far(), 0, 1) {
			if _, is := o.At(n, 0); is {
				t.Errorf("%v has %d, 0", o, n)
			}
			s, is := o.Sub(n, 0, 1, 1)
			same(t, "a part", s, Matrix{})
			if is || len(o.Row(n)) != 0 || len(o.Col(n)) != 0 || o.Has(m, n, 0) || o.Has(o, n, 0) || m.Has(o, n, n) {
				t.Errorf("%v has something at %d", o, n)
			}
		}
		if len(o.Find(m)) != 0 || len(o.Find(o)) != 0 || len(m.Find(o)) != 0 {
			t.Errorf("%v is somewhere", o)
		}
	}
}

func TestPartsAreNew(t *testing.T) {
	m := of(2, 1, 2, 3, 4)
	whole, _ := m.Sub(0, 0, 2, 2)
	upper, _ := m.Sub(0, 0, 2, 1)
	for _, l := range [][]api.Pixel{m.Row(0), m.Row(1), m.Col(0), m.Col(1), whole.L, upper.L, of(1, 6).Row(0), of(1, 6).Col(0)} {
		for i := range l {
			l[i] = 9
		}
		_ = append(l, 9)
	}
	same(t, "behind a change of its parts", m, of(2, 1, 2, 3, 4))
	l := m.Find(of(1, 2))
	l[0] = [2]int{7, 7}
	if again := m.Find(of(1, 2)); !slices.Equal(again, [][2]int{{1, 0}}) {
		t.Errorf("behind a change of what was found: %v", again)
	}
}

// P3.3

func TestBeside(t *testing.T) {
	for _, x := range []struct{ a, b, want Matrix }{
		{of(1, 1), of(1, 2), of(2, 1, 2)},
		{of(1, 1, 2), of(2, 3, 4, 5, 6), of(3, 1, 3, 4, 2, 5, 6)},
		{of(2, 3, 4, 5, 6), of(1, 1, 2), of(3, 3, 4, 1, 5, 6, 2)},
		{of(3, 1, 2, 3), of(1, 0), of(4, 1, 2, 3, 0)},
	} {
		m, e := Beside(x.a, x.b)
		same(t, x, m, x.want)
		if e != api.OK {
			t.Errorf("%v: %v", x, e)
		}
	}
}

func TestAbove(t *testing.T) {
	for _, x := range []struct{ a, b, want Matrix }{
		{of(1, 1), of(1, 2), of(1, 1, 2)},
		{of(2, 1, 2), of(2, 3, 4, 5, 6), of(2, 1, 2, 3, 4, 5, 6)},
		{of(2, 3, 4, 5, 6), of(2, 1, 2), of(2, 3, 4, 5, 6, 1, 2)},
	} {
		m, e := Above(x.a, x.b)
		same(t, x, m, x.want)
		if e != api.OK {
			t.Errorf("%v: %v", x, e)
		}
	}
}

func TestTogetherRefused(t *testing.T) {
	a := counted(2, 3)
	for _, b := range []Matrix{counted(2, 2), counted(2, 4), counted(3, 1)} {
		m, e := Beside(a, b)
		refused(t, "not as high", m, e)
		m, e = Beside(b, a)
		refused(t, "not as high", m, e)
	}
	for _, b := range []Matrix{counted(1, 3), counted(3, 3), counted(1, 2)} {
		m, e := Above(a, b)
		refused(t, "not as wide", m, e)
		m, e = Above(b, a)
		refused(t, "not as wide", m, e)
	}
	for _, o := range append(none(), Matrix{W: 2, H: 3}) {
		for _, pair := range [][2]Matrix{{o, a}, {a, o}, {o, o}, {o, Matrix{W: 1, H: o.H, L: make([]api.Pixel, 1)}}} {
			m, e := Beside(pair[0], pair[1])
			refused(t, pair, m, e)
			m, e = Above(pair[0], pair[1])
			refused(t, pair, m, e)
		}
	}
}

func TestTogetherEdges(t *testing.T) {
	room := make([]api.Pixel, 1<<24)
	noughts := func(w, h int) Matrix { return Matrix{W: w, H: h, L: room[:w*h]} }
	for _, x := range []struct {
		call func(a, b Matrix) (Matrix, api.Errno)
		a, b Matrix
		w, h int // 0, if it is refused
	}{
		{Beside, noughts(4095, 1), noughts(1, 1), 4096, 1},
		{Beside, noughts(4095, 1), noughts(2, 1), 0, 0},
		{Beside, noughts(1, 1), noughts(4096, 1), 0, 0},
		{Beside, noughts(4096, 2), noughts(4096, 2), 0, 0},
		{Beside, noughts(255, 65536), noughts(1, 65536), 256, 65536},
		{Beside, noughts(255, 65536), noughts(2, 65536), 0, 0},
		{Beside, noughts(2048, 4097), noughts(2048, 4097), 0, 0},
		{Above, noughts(1, 65535), noughts(1, 1), 1, 65536},
		{Above, noughts(1, 65535), noughts(1, 2), 0, 0},
		{Above, noughts(1, 1), noughts(1, 65536), 0, 0},
		{Above, noughts(4096, 4095), noughts(4096, 1), 4096, 4096},
		{Above, noughts(4096, 4095), noughts(4096, 2), 0, 0},
	} {
		m, e := x.call(x.a, x.b)
		if x.w == 0 {
			refused(t, [2]int{x.a.W, x.a.H}, m, e)
		} else if e != api.OK || m.W != x.w || m.H != x.h || len(m.L) != x.w*x.h {
			t.Errorf("%d by %d: %d by %d, %v", x.w, x.h, m.W, m.H, e)
		}
	}
}

func TestTogetherIsNew(t *testing.T) {
	room := []api.Pixel{1, 2, 3, 4, 5, 6, 7, 8}
	a, b := Matrix{W: 2, H: 2, L: room[:4]}, Matrix{W: 2, H: 2, L: room[4:]}
	for _, call := range []func(a, b Matrix) (Matrix, api.Errno){Beside, Above} {
		m, _ := call(a, b)
		for i := range m.L {
			m.L[i] = 9
		}
		again, _ := call(a, a)
		if slices.Contains(again.L, 9) {
			t.Error("what was answered is shared")
		}
	}
	if !slices.Equal(room, []api.Pixel{1, 2, 3, 4, 5, 6, 7, 8}) {
		t.Errorf("what was handed in was changed: %v", room)
	}
}

func TestFits(t *testing.T) {
	pack := func(l ...int) api.Pixel {
		p, _ := pix.Pack(l...)
		return p
	}
	gray, coloured := api.Format{Channels: 1, Maxval: 5}, api.Format{Channels: 3, Maxval: 5}
	greatest := api.Format{Channels: 1, Maxval: 65535}
	for _, x := range []struct {
		m    Matrix
		f    api.Format
		want bool
	}{
		{of(2, pack(0), pack(5), pack(1), pack(4)), gray, true},
		{of(2, pack(0), pack(5), pack(1), pack(4)), greatest, true},
		{of(2, pack(0), pack(5), pack(1), pack(6)), gray, false},
		{of(2, pack(6), pack(5), pack(1), pack(0)), gray, false},
		{of(2, pack(0), pack(5), pack(1), pack(4)), coloured, false},
		{of(2, pack(0), pack(0, 0, 0)), gray, false},
		{of(2, pack(0, 0, 0), pack(0)), coloured, false},
		{of(1, pack(0, 5, 1), pack(5, 5, 5)), coloured, true},
		{of(1, pack(0, 5, 1), pack(5, 5, 6)), coloured, false},
		{of(1, pack(65535)), greatest, true},
		{of(1, 0), gray, false}, {of(2, pack(1), 1), gray, false}, {of(1, math.MaxUint64), greatest, false}, {of(1, 2<<48), api.Format{Channels: 2, Maxval: 5}, false},
		{of(1, pack(0)), api.Format{Channels: 1}, false}, {of(1, pack(0)), api.Format{Channels: 1, Maxval: 65536}, false}, {of(1, pack(0)), api.Format{}, false}, {of(1, 0), api.Format{}, false},
		{Matrix{W: 1, H: 2, L: []api.Pixel{pack(1)}}, gray, false}, {Matrix{W: 1, H: 1, L: []api.Pixel{pack(1), pack(1)}}, gray, false},
		{Matrix{L: []api.Pixel{}}, gray, false},
	} {
		if got := Fits(x.m, x.f); got != x.want {
			t.Errorf("%v in %v: %v", x.m, x.f, got)
		}
	}
	for _, o := range none() {
		l := make([]api.Pixel, len(o.L))
		for i := range l {
			l[i] = pack(1)
		}
		if Fits(Matrix{W: o.W, H: o.H, L: l}, gray) {
			t.Errorf("%d by %d, of %d, fits", o.W, o.H, len(l))
		}
	}
}

// P3.4

func TestOfItsRowsAndColumns(t *testing.T) {
	for _, m := range samples() {
		var rows [][]api.Pixel
		for y := range m.H {
			rows = append(rows, m.Row(y))
		}
		again, _ := Of(rows...)
		same(t, "its rows", again, m)
		again = Matrix{W: 1, H: m.H, L: m.Col(0)}
		for x := 1; x < m.W; x++ {
			again, _ = Beside(again, Matrix{W: 1, H: m.H, L: m.Col(x)})
		}
		same(t, "its columns", again, m)
	}
}

func TestWhatIsPutTogetherIsFound(t *testing.T) {
	for _, a := range samples() {
		for _, b := range samples() {
			if m, e := Beside(a, b); e == api.OK {
				found(t, m, a, 0, 0)
				found(t, m, b, a.W, 0)
			} else if a.H == b.H {
				t.Errorf("%v beside %v: %v", a, b, e)
			}
			if m, e := Above(a, b); e == api.OK {
				found(t, m, a, 0, 0)
				found(t, m, b, 0, a.H)
			} else if a.W == b.W {
				t.Errorf("%v above %v: %v", a, b, e)
			}
		}
	}
}

func found(t *testing.T, m, o Matrix, x, y int) {
	t.Helper()
	s, _ := m.Sub(x, y, o.W, o.H)
	if !Same(s, o) || !m.Has(o, x, y) || !slices.Contains(m.Find(o), [2]int{x, y}) {
		t.Errorf("%v is not found in %v at %d, %d", o, m, x, y)
	}
}

// R4

func TestArgumentsAreLeft(t *testing.T) {
	room := []api.Pixel{1, 2, 3, 4, 5, 6, 7, 8, 9}
	m := Matrix{W: 2, H: 2, L: room[:4]}
	o := Matrix{W: 1, H: 2, L: room[5:7]}
	May(m)
	Of(room[:2], room[2:4])
	m.At(1, 1)
	m.Row(1)
	m.Col(1)
	m.Sub(0, 0, 1, 2)
	m.Has(o, 1, 0)
	m.Find(o)
	Same(m, o)
	Beside(m, o)
	Above(m, m)
	Fits(m, api.Format{Channels: 1, Maxval: 1})
	if !slices.Equal(room, []api.Pixel{1, 2, 3, 4, 5, 6, 7, 8, 9}) {
		t.Errorf("%v", room)
	}
}
