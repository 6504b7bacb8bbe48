package words

import (
	"math"
	"slices"
	"testing"

	"chequer/api"
)

const (
	most = 1 << 20 // nodes of chapter 12
	top  = math.MaxUint64
)

func word(l ...api.Pixel) []api.Pixel { return l }

// What the chapter says of a set, by other means: its rows stand in a list, and all are gone through.

type model struct {
	rows [][]api.Pixel
}

func (m *model) add(row []api.Pixel) int {
	for id, r := range m.rows {
		if slices.Equal(r, row) {
			return id
		}
	}
	m.rows = append(m.rows, slices.Clone(row))
	return len(m.rows) - 1
}

// ends is the rows of which the last numbers of a list are.
func (m *model) ends(l []api.Pixel) []int {
	var ids []int
	for id, r := range m.rows {
		if len(r) <= len(l) && slices.Equal(r, l[len(l)-len(r):]) {
			ids = append(ids, id)
		}
	}
	return ids
}

func (m *model) label(l []api.Pixel, w int) int {
	for _, id := range m.ends(l) {
		if len(m.rows[id]) == w {
			return id
		}
	}
	return -1
}

func (m *model) widths() []int {
	var l []int
	for _, r := range m.rows {
		l = append(l, len(r))
	}
	slices.Sort(l)
	return slices.Compact(l)
}

// Rows to make sets of.

// lists are all lists of numbers, one up to so many.
func lists(numbers []api.Pixel, length int) [][]api.Pixel {
	var l [][]api.Pixel
	for _, p := range numbers {
		l = append(l, word(p))
		if length > 1 {
			for _, rest := range lists(numbers, length-1) {
				l = append(l, append(word(p), rest...))
			}
		}
	}
	return l
}

// mixer tells numbers without a rule to be seen, each below n.
func mixer(seed int) func(n int) int {
	state := uint64(seed)*2862933555777941757 + 3037000493
	return func(n int) int {
		state = state*6364136223846793005 + 1442695040888963407
		return int(state >> 33 % uint64(n))
	}
}

func mixed(next func(int) int, length, kinds int) []api.Pixel {
	w := make([]api.Pixel, length)
	for i := range w {
		w[i] = api.Pixel(next(kinds))
	}
	return w
}

func mixedRows(seed, count, length, kinds int) [][]api.Pixel {
	next := mixer(seed)
	var l [][]api.Pixel
	for range count {
		l = append(l, mixed(next, 1+next(length), kinds))
	}
	return l
}

func repeated(p api.Pixel, count int) []api.Pixel { return slices.Repeat(word(p), count) }

// setOf is a set of rows, each added to it and to its model.
func setOf(t *testing.T, rows ...[]api.Pixel) (*Set, *model) {
	t.Helper()
	s, m := New(), &model{}
	for _, r := range rows {
		add(t, s, m, r)
	}
	return s, m
}

func add(t *testing.T, s *Set, m *model, row []api.Pixel) {
	t.Helper()
	if id, e := s.Add(row); id != m.add(row) || e != api.OK {
		t.Errorf("Add(%v) = %d, %v, not %d", row, id, e, m.add(row))
	}
}

// Sets held against what they should tell.

var nowhere = []int{-1, -2, -1 << 32, math.MinInt, math.MinInt + 1, 1 << 20, 1 << 32, 1<<32 + 1, 1 << 62, math.MaxInt}

// stands holds all that a set tells of its rows.
func stands(t *testing.T, s *Set, m *model) {
	t.Helper()
	if s.Len() != len(m.rows) || !slices.Equal(s.Widths(), m.widths()) {
		t.Errorf("%v: %d rows, %v wide", m.rows, s.Len(), s.Widths())
	}
	for id, r := range m.rows {
		if got := s.Row(id); !slices.Equal(got, r) {
			t.Errorf("the row %d is %v, not %v", id, got, r)
		}
	}
	for _, id := range append(slices.Clone(nowhere), len(m.rows), len(m.rows)+1) {
		if r := s.Row(id); len(r) != 0 {
			t.Errorf("of %d rows, the row %d is %v", len(m.rows), id, r)
		}
	}
}

// finds holds what a set tells of a row in which its rows are looked for, whole and pixel by pixel.
func finds(t *testing.T, s *Set, m *model, row []api.Pixel) {
	t.Helper()
	scan, c := s.Scan(row), s.Begin()
	if len(scan) != len(row) {
		t.Errorf("%v: %d places in %v", m.rows, len(scan), row)
		return
	}
	for x, p := range row {
		want := m.ends(row[:x+1])
		if got := c.Put(p); !slices.Equal(got, want) || !slices.Equal(scan[x], want) {
			t.Errorf("%v: in %v end at %d %v, and a scanner's %v, not %v", m.rows, row, x, scan[x], got, want)
		}
	}
	for _, w := range append(slices.Clone(nowhere), 0, 1, 2, 3, 4, 5, 6, 7, 8, len(row), len(row)+1) {
		labels(t, s, m, row, w)
	}
}

func labels(t *testing.T, s *Set, m *model, row []api.Pixel, w int) {
	t.Helper()
	var want []int
	for x := range row {
		want = append(want, m.label(row[:x+1], w))
	}
	if got := s.Label(row, w); !slices.Equal(got, want) {
		t.Errorf("%v: Label(%v, %d) = %v, not %v", m.rows, row, w, got, want)
	}
}

// P14.1

func TestNewIsWithoutRows(t *testing.T) {
	s, m := New(), &model{}
	stands(t, s, m)
	finds(t, s, m, nil)
	finds(t, s, m, word(0, 1, top))
	if s.Len() != 0 || len(s.Widths()) != 0 || len(s.Row(0)) != 0 {
		t.Errorf("%d rows, %v wide, the first one %v", s.Len(), s.Widths(), s.Row(0))
	}
}

// The same row again has the number that it has; one that a longer one begins with, or ends with, is another one.
func TestAdd(t *testing.T) {
	s := New()
	for i, c := range []struct {
		row       []api.Pixel
		id, count int
	}{
		{word(1, 2, 3), 0, 1}, {word(1, 2), 1, 2}, {word(1, 2, 3), 0, 2}, {word(2, 3), 2, 3}, {word(1), 3, 4},
		{word(1, 2), 1, 4}, {word(1, 2, 3, 4), 4, 5}, {word(3, 2, 1), 5, 6}, {word(2), 6, 7}, {word(1), 3, 7},
		{word(0), 7, 8}, {word(0, 0), 8, 9}, {word(top), 9, 10}, {word(0), 7, 10}, {word(1<<63, 0), 10, 11}, {word(0, 0), 8, 11}, {word(top), 9, 11},
	} {
		if id, e := s.Add(c.row); id != c.id || e != api.OK || s.Len() != c.count {
			t.Errorf("%d: Add(%v) = %d, %v, of %d", i, c.row, id, e, s.Len())
		}
	}
	if w := s.Widths(); !slices.Equal(w, []int{1, 2, 3, 4}) {
		t.Errorf("%v wide", w)
	}
}

func TestAddOfNoPixels(t *testing.T) {
	s, m := New(), &model{}
	for _, r := range append([][]api.Pixel{nil}, mixedRows(1, 6, 3, 2)...) {
		if len(r) > 0 {
			add(t, s, m, r)
		}
		for _, empty := range [][]api.Pixel{nil, {}, word(1, 2)[:0]} {
			if id, e := s.Add(empty); id != -1 || e != api.ErrArg {
				t.Errorf("Add(%v) = %d, %v", empty, id, e)
			}
		}
		stands(t, s, m)
		finds(t, s, m, word(0, 1, 0, 0, 1, 1))
	}
}

// A set whose tree has all nodes that it may have takes rows still that need no new one.
func TestAddToAFullSet(t *testing.T) {
	s := New()
	long := repeated(7, most-1)
	if id, e := s.Add(append(slices.Clone(long), 7)); id != -1 || e != api.ErrFull || s.Len() != 0 || len(s.Widths()) != 0 || len(s.Row(0)) != 0 {
		t.Fatalf("a row of 2^20 pixels: %d, %v, of %d", id, e, s.Len())
	}
	for i, c := range []struct {
		row []api.Pixel
		id  int
		e   api.Errno
	}{
		{word(8), 0, api.OK}, {long, -1, api.ErrFull}, {long[1:], 1, api.OK}, {word(9), -1, api.ErrFull}, {word(7, 8), -1, api.ErrFull}, {long, -1, api.ErrFull},
		{nil, -1, api.ErrArg}, {long[1:], 1, api.OK}, {word(7, 7), 2, api.OK}, {word(8), 0, api.OK}, {word(8, 7), -1, api.ErrFull}, {word(7, 7), 2, api.OK}, {word(7), 3, api.OK}, {word(9), -1, api.ErrFull},
	} {
		if id, e := s.Add(c.row); id != c.id || e != c.e {
			t.Errorf("%d: %d, %v, not %d, %v", i, id, e, c.id, c.e)
		}
	}
	if s.Len() != 4 || !slices.Equal(s.Widths(), []int{1, 2, most - 2}) || !slices.Equal(s.Row(1), long[1:]) || !slices.Equal(s.Row(2), word(7, 7)) || len(s.Row(4)) != 0 {
		t.Errorf("%d rows, %v wide", s.Len(), s.Widths())
	}
	for x, ids := range s.Scan(append(word(9, 8, 7, 7, 9), long...)) {
		want := [][]int{nil, {0}, {3}, {2, 3}, nil, {3}}[min(x, 5)]
		if x >= 6 {
			want = []int{2, 3}
		}
		if x >= 5+most-3 {
			want = []int{1, 2, 3}
		}
		if !slices.Equal(ids, want) {
			t.Fatalf("at %d end %v, not %v", x, ids, want)
		}
	}
}

func TestWidthsRise(t *testing.T) {
	s, m := New(), &model{}
	for _, w := range []int{9, 2, 4096, 2, 1, 300, 9, 65536, 17, 1, 4095, 4097} {
		for _, p := range word(3, 4) {
			add(t, s, m, repeated(p, w))
			if got := s.Widths(); !slices.Equal(got, m.widths()) {
				t.Errorf("%v wide, not %v", got, m.widths())
			}
		}
	}
	if s.Len() != 18 {
		t.Errorf("%d rows", s.Len())
	}
}

// P14.2

func TestExample(t *testing.T) {
	s, m := setOf(t, word(1, 2), word(2))
	if l := s.Scan(word(1, 2, 2)); !slices.EqualFunc(l, [][]int{nil, {0, 1}, {1}}, slices.Equal[[]int]) {
		t.Errorf("%v", l)
	}
	if l := s.Label(word(1, 2, 2), 1); !slices.Equal(l, []int{-1, 1, 1}) {
		t.Errorf("one wide: %v", l)
	}
	if l := s.Label(word(1, 2, 2), 2); !slices.Equal(l, []int{-1, 0, -1}) {
		t.Errorf("two wide: %v", l)
	}
	stands(t, s, m)
	finds(t, s, m, word(1, 2, 2))
}

// Rows are told by their numbers, whichever is longer.
func TestScanRises(t *testing.T) {
	for _, rows := range [][][]api.Pixel{
		{{1}, {1, 1}, {1, 1, 1}}, {{1, 1, 1}, {1, 1}, {1}}, {{1, 1}, {1, 1, 1}, {1}}, {{1, 1}, {1}, {1, 1, 1}}, {{1}, {1, 1, 1}, {1, 1}}, {{1, 1, 1}, {1}, {1, 1}},
	} {
		s, _ := setOf(t, rows...)
		if l := s.Scan(word(1, 1, 1)); !slices.Equal(l[2], []int{0, 1, 2}) || len(l[1]) != 2 || l[1][0] > l[1][1] || len(l[0]) != 1 {
			t.Errorf("%v: %v", rows, l)
		}
	}
}

// A row ends within, and behind, longer ones that go wrong at each of their places.
func TestLabelWithinLongerRows(t *testing.T) {
	s, m := setOf(t, word(1, 2, 3, 4, 5), word(2, 3, 4), word(3), word(2, 3), word(3, 4, 6), word(9, 2, 3, 4, 5, 1), word(4, 5), word(1, 2, 3))
	for _, row := range [][]api.Pixel{
		word(1, 2, 3, 4, 5), word(1, 2, 3, 4, 6), word(1, 2, 3, 5), word(9, 2, 3, 4, 5, 1), word(9, 2, 3, 4, 5, 2, 3, 4), word(9, 2, 3, 4, 6), word(1, 2, 3, 4, 5, 1, 2, 3, 4, 5), word(1, 2, 3, 3, 2, 3, 4, 5), word(2, 2, 3, 3, 4, 6, 3),
	} {
		finds(t, s, m, row)
	}
	if l := s.Label(word(9, 2, 3, 4, 5, 1), 2); !slices.Equal(l, []int{-1, -1, 3, -1, 6, -1}) {
		t.Errorf("%v", l)
	}
}

// No row is so wide: none is labelled, though rows end there.
func TestLabelOfOtherWidths(t *testing.T) {
	s, _ := setOf(t, word(1), word(1, 1, 1))
	for _, w := range append(slices.Clone(nowhere), 0, 2, 4, 5) {
		if l := s.Label(word(1, 1, 1, 1, 2), w); !slices.Equal(l, []int{-1, -1, -1, -1, -1}) {
			t.Errorf("%d wide: %v", w, l)
		}
		if l := s.Label(nil, w); len(l) != 0 {
			t.Errorf("%d wide, in no row: %v", w, l)
		}
	}
	if len(s.Label(nil, 1)) != 0 || len(s.Label(word(), 3)) != 0 || len(s.Scan(nil)) != 0 || len(s.Scan(word())) != 0 {
		t.Error("something ends in no row")
	}
}

// Each three rows, in each row of few numbers.
func TestEveryThreeRows(t *testing.T) {
	numbers := word(0, top)
	rows, in := lists(numbers, 3), lists(append(numbers, 1<<63), 4)
	next := mixer(0)
	for _, a := range rows {
		for _, b := range rows {
			for _, c := range rows {
				s, m := setOf(t, a, b, c)
				stands(t, s, m)
				for range 3 {
					finds(t, s, m, in[next(len(in))])
				}
				finds(t, s, m, slices.Concat(a, b, c))
			}
		}
	}
}

func TestMixedRows(t *testing.T) {
	for seed := range 24 {
		kinds := 1 + seed%5
		s, m := setOf(t, mixedRows(seed, 30, 7, kinds)...)
		stands(t, s, m)
		next := mixer(seed + 100)
		for length := range 40 {
			finds(t, s, m, mixed(next, length, kinds+length%2))
		}
	}
}

// Pixels are held against one another as they are, of 64 bits without a sign.
func TestGreatNumbers(t *testing.T) {
	numbers := word(1<<63+1, 3, top, 0, 1<<32, 1<<63, 1, 1<<63-1, 1<<48, 65536, 65535, 1<<32-1, top-1, 1<<62)
	var rows [][]api.Pixel
	for i, p := range numbers {
		rows = append(rows, word(p), word(p, numbers[len(numbers)-1-i]))
	}
	s, m := setOf(t, rows...)
	stands(t, s, m)
	finds(t, s, m, slices.Concat(numbers, word(2, 4, 65537, 1<<33, 1<<63-2, 1<<63+2, top-2), numbers))
	slices.Reverse(numbers)
	finds(t, s, m, numbers)
}

// What is added is looked for from then on, whatever was asked ahead.
func TestRowsAddedInBetween(t *testing.T) {
	for seed := range 6 {
		s, m := New(), &model{}
		next := mixer(seed + 200)
		for _, r := range mixedRows(seed, 40, 5, 2) {
			add(t, s, m, r)
			stands(t, s, m)
			finds(t, s, m, mixed(next, 12, 2))
			finds(t, s, m, slices.Concat(r, r))
		}
	}
}

// P14.3

// A scanner is of the set as it was when it began.
func TestScannersOfThen(t *testing.T) {
	s, m := New(), &model{}
	var scanners []*Scanner
	var models []*model
	begin := func() {
		scanners, models = append(scanners, s.Begin()), append(models, &model{rows: slices.Clone(m.rows)})
	}
	begin()
	for _, r := range mixedRows(9, 25, 5, 2) {
		add(t, s, m, r)
		begin()
		begin()
	}
	row := mixed(mixer(10), 60, 3)
	for round := range 2 {
		for x, p := range row {
			for i, c := range scanners {
				if got, want := c.Put(p), models[i].ends(row[:x+1]); !slices.Equal(got, want) {
					t.Fatalf("%v, round %d: behind %v end %v, not %v", models[i].rows, round, row[:x+1], got, want)
				}
			}
		}
		for _, c := range scanners {
			c.Reset()
		}
	}
	stands(t, s, m)
	finds(t, s, m, row)
}

// A scanner that was told something keeps what it was told, and looks for no row that comes behind its beginning.
func TestAddWhileAScannerGoesOn(t *testing.T) {
	s, _ := setOf(t, word(1, 2, 3))
	c := s.Begin()
	if l := slices.Concat(c.Put(1), c.Put(2)); len(l) != 0 {
		t.Errorf("%v", l)
	}
	s.Add(word(3))
	s.Add(word(2, 3))
	if l := c.Put(3); !slices.Equal(l, []int{0}) {
		t.Errorf("%v", l)
	}
	c.Reset()
	if l := c.Put(3); len(l) != 0 {
		t.Errorf("behind Reset: %v", l)
	}
	if l := s.Begin().Put(3); !slices.Equal(l, []int{1}) {
		t.Errorf("a new one: %v", l)
	}
}

// Behind Reset nothing of what was told ahead is known; without it, all is.
func TestReset(t *testing.T) {
	s, _ := setOf(t, word(1, 2), word(2), word(1, 2, 1, 2))
	c := s.Begin()
	c.Reset()
	for i, step := range []struct {
		p     api.Pixel
		reset bool
		ends  []int
	}{
		{1, false, nil}, {2, false, []int{0, 1}}, {1, false, nil}, {2, false, []int{0, 1, 2}},
		{1, false, nil}, {2, true, []int{1}}, {1, false, nil}, {2, false, []int{0, 1}},
		{1, true, nil}, {2, false, []int{0, 1}}, {1, false, nil}, {7, false, nil}, {2, false, []int{1}},
		{1, true, nil}, {1, false, nil}, {2, false, []int{0, 1}}, {1, false, nil}, {2, false, []int{0, 1, 2}},
	} {
		if step.reset {
			c.Reset()
			c.Reset()
		}
		if l := c.Put(step.p); !slices.Equal(l, step.ends) {
			t.Errorf("%d: with %d end %v, not %v", i, step.p, l, step.ends)
		}
	}
}

// Scanners of one set know nothing of one another, nor of Scan and Label.
func TestScannersAreTheirOwn(t *testing.T) {
	s, m := setOf(t, mixedRows(11, 20, 5, 2)...)
	next := mixer(12)
	a, b := s.Begin(), s.Begin()
	var toldA, toldB []api.Pixel
	for range 200 {
		p, q := api.Pixel(next(2)), api.Pixel(next(3))
		toldA, toldB = append(toldA, p), append(toldB, q)
		endsA := a.Put(p)
		s.Scan(toldB)
		endsB := b.Put(q)
		s.Label(toldA, 3)
		if !slices.Equal(endsA, m.ends(toldA)) || !slices.Equal(endsB, m.ends(toldB)) {
			t.Fatalf("behind %v, %v end %v, %v", toldA, toldB, endsA, endsB)
		}
		if next(20) == 0 {
			a.Reset()
			toldA = nil
		}
	}
}

// P14.4

func TestScannerTellsWhatScanTells(t *testing.T) {
	for seed := range 12 {
		kinds := 1 + seed%4
		s, _ := setOf(t, mixedRows(seed+30, 25, 6, kinds)...)
		c, next := s.Begin(), mixer(seed+60)
		for length := range 50 {
			row := mixed(next, length, kinds)
			c.Reset()
			for x, want := range s.Scan(row) {
				if got := c.Put(row[x]); !slices.Equal(got, want) {
					t.Errorf("in %v end at %d %v, and a scanner's %v", row, x, want, got)
				}
			}
		}
	}
}

// Great sets

// Rows of each width, all of one number: at each place those end that are no wider than what was told.
func TestManyWidths(t *testing.T) {
	const count, length = 600, 1000
	s := New()
	for w := count; w > 0; w-- {
		if id, e := s.Add(repeated(7, w)); id != count-w || e != api.OK {
			t.Fatalf("%d wide: %d, %v", w, id, e)
		}
	}
	row := repeated(7, length)
	for x, ids := range s.Scan(row) {
		n := min(x+1, count)
		if len(ids) != n || ids[0] != count-n || ids[n-1] != count-1 || !slices.IsSorted(ids) {
			t.Fatalf("at %d end %d, from %d to %d", x, len(ids), ids[0], ids[len(ids)-1])
		}
	}
	for w := 1; w <= count; w++ {
		for x, id := range s.Label(row, w) {
			if x+1 < w && id != -1 || x+1 >= w && id != count-w {
				t.Fatalf("%d wide, at %d: %d", w, x, id)
			}
		}
	}
}

// What one width costs does not grow with how many others there are.
func TestLabelAmongVeryManyWidths(t *testing.T) {
	const count = 8000
	s := New()
	row := repeated(7, count)
	for w := 1; w <= count; w++ {
		s.Add(row[:w])
	}
	long := repeated(7, 1<<20)
	for _, w := range []int{1, 2, count / 2, count} {
		for x, id := range s.Label(long, w) {
			if x+1 < w && id != -1 || x+1 >= w && id != w-1 {
				t.Fatalf("%d wide, at %d: %d", w, x, id)
			}
		}
	}
	if l := s.Label(long[:3], count+1); !slices.Equal(l, []int{-1, -1, -1}) {
		t.Errorf("%v", l)
	}
}

// As many rows as there may be, each of one pixel.
func TestMostRows(t *testing.T) {
	s := New()
	row := make([]api.Pixel, most)
	for i := range row {
		row[i] = api.Pixel(2 * i)
	}
	for i, p := range row[:most-1] {
		if id, e := s.Add(word(p)); id != i || e != api.OK {
			t.Fatalf("%d: %d, %v", i, id, e)
		}
	}
	if id, e := s.Add(row[most-1:]); id != -1 || e != api.ErrFull || s.Len() != most-1 || !slices.Equal(s.Widths(), []int{1}) {
		t.Errorf("one too many: %d, %v, of %d", id, e, s.Len())
	}
	labels, scan := s.Label(row, 1), s.Scan(row)
	for x := range row[:most-1] {
		if labels[x] != x || !slices.Equal(scan[x], []int{x}) {
			t.Fatalf("at %d: %d, %v", x, labels[x], scan[x])
		}
	}
	if labels[most-1] != -1 || len(scan[most-1]) != 0 {
		t.Errorf("what is not there ends: %d, %v", labels[most-1], scan[most-1])
	}
}

// R4, R5

// overwrite overwrites all of a list, and the room behind it.
func overwrite[T int | api.Pixel](l []T) {
	l = l[:cap(l)]
	for i := range l {
		l[i] = 99
	}
}

func TestWhatIsHandedInIsNotChangedNorKept(t *testing.T) {
	s, m := New(), &model{}
	for _, r := range mixedRows(20, 20, 5, 2) {
		room := append(slices.Clone(r), 77, 78)
		was := slices.Clone(room)
		add(t, s, m, room[:len(r)])
		if !slices.Equal(room, was) {
			t.Errorf("%v became %v", was, room)
		}
		overwrite(room)
	}
	stands(t, s, m)
	room := word(0, 1, 1, 0, 0, 1, 0, 77, 78)
	scan, labelled, c := s.Scan(room[:7]), s.Label(room[:7], 2), s.Begin()
	if !slices.Equal(room, word(0, 1, 1, 0, 0, 1, 0, 77, 78)) {
		t.Errorf("became %v", room)
	}
	row := slices.Clone(room[:7])
	overwrite(room)
	for x, p := range row {
		want := m.ends(row[:x+1])
		if !slices.Equal(scan[x], want) || labelled[x] != m.label(row[:x+1], 2) || !slices.Equal(c.Put(p), want) {
			t.Errorf("at %d: %v, %d, not %v", x, scan[x], labelled[x], want)
		}
	}
}

// No list that is answered shares memory with the set, or with another one, of the same answer or of others.
func TestWhatIsAnsweredIsNew(t *testing.T) {
	s, m := setOf(t, append(mixedRows(21, 15, 5, 2), mixedRows(22, 15, 2, 2)...)...)
	row := mixed(mixer(23), 30, 2)
	c := s.Begin()
	for x, p := range row {
		ends := c.Put(p)
		if want := m.ends(row[:x+1]); !slices.Equal(ends, want) {
			t.Errorf("at %d end %v, not %v", x, ends, want)
		}
		overwrite(ends)
	}
	for id := range s.Len() {
		overwrite(s.Row(id))
	}
	overwrite(s.Widths())
	for w := range 7 {
		overwrite(s.Label(row, w))
	}
	scan, again := s.Scan(row), s.Scan(row)
	for x, ids := range again {
		overwrite(ids)
		if want := m.ends(row[:x+1]); !slices.Equal(scan[x], want) || x+1 < len(row) && !slices.Equal(again[x+1], m.ends(row[:x+2])) {
			t.Errorf("at %d end %v, not %v", x, scan[x], want)
		}
	}
	stands(t, s, m)
	finds(t, s, m, row)
}

// What was asked of one set changes nothing of what another one answers.
func TestSetsAreTheirOwn(t *testing.T) {
	a, m := setOf(t, mixedRows(24, 15, 5, 3)...)
	b, o := setOf(t, mixedRows(25, 15, 5, 3)...)
	row := mixed(mixer(26), 40, 3)
	for range 2 {
		stands(t, a, m)
		finds(t, a, m, row)
		add(t, b, o, row[:6])
		stands(t, b, o)
		finds(t, b, o, row)
	}
}
