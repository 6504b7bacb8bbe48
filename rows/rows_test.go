package rows

import (
	"math"
	"slices"
	"testing"

	"chequer/api"
	"chequer/dict"
	"chequer/image"
	"chequer/rect"
)

// The greatest of a dictionary, and of an image.
const (
	widest  = 4096
	highest = 65536
	deepest = 65535
	room    = 1 << 16 // pixels of all variants
	count   = 64      // templates
)

var all = []int{0, 1, 2, 3, 4, 5, 6, 7}

func gray(l ...int) []api.Pixel {
	var out []api.Pixel
	for _, n := range l {
		out = append(out, 1<<48+api.Pixel(n))
	}
	return out
}

func color(l ...int) []api.Pixel {
	var out []api.Pixel
	for a := range slices.Chunk(l, 3) {
		out = append(out, 3<<48+api.Pixel(a[0])<<32+api.Pixel(a[1])<<16+api.Pixel(a[2]))
	}
	return out
}

func format(channels, maxval int) api.Format { return api.Format{Channels: channels, Maxval: maxval} }

// of is an image of pixels, as high as there are rows of them.
func of(f api.Format, w int, l []api.Pixel) image.Image {
	return image.Image{Format: f, M: rect.Matrix{W: w, H: len(l) / w, L: l}}
}

// grays is an image of one sample, colors one of three.
func grays(maxval, w int, l ...int) image.Image  { return of(format(1, maxval), w, gray(l...)) }
func colors(maxval, w int, l ...int) image.Image { return of(format(3, maxval), w, color(l...)) }

// rising is the numbers from 0 on, up to n, without it.
func rising(n int) []int {
	l := make([]int, n)
	for i := range l {
		l[i] = i
	}
	return l
}

func add(t *testing.T, d *dict.Dict, m image.Image, turns ...int) {
	t.Helper()
	if _, e := d.Add(m, turns...); e != api.OK {
		t.Fatalf("Add(%v %d by %d, %v): %v", m.Format, m.M.W, m.M.H, turns, e)
	}
}

// dictOf is a dictionary of images, each laid as it is.
func dictOf(t *testing.T, images ...image.Image) *dict.Dict {
	t.Helper()
	d := dict.New()
	for _, m := range images {
		add(t, d, m, 0)
	}
	return d
}

// mixer tells numbers without a rule to be seen, each below n.
func mixer(seed int) func(n int) int {
	state := uint64(seed)*2862933555777941757 + 3037000493
	return func(n int) int {
		state = state*6364136223846793005 + 1442695040888963407
		return int(state >> 33 % uint64(n))
	}
}

// mixedDict is a dictionary of images of one to side pixels each way, few of which are not the same, of four formats, laid some ways.
func mixedDict(t *testing.T, seed, templates, side int) *dict.Dict {
	t.Helper()
	d, next := dict.New(), mixer(seed)
	for range templates {
		w, h, channels := 1+next(side), 1+next(side), []int{1, 1, 3}[next(3)]
		l := make([]int, w*h*channels)
		for i := range l {
			l[i] = next(2)
		}
		m := grays(1+next(2), w, l...)
		if channels == 3 {
			m = colors(1+next(2), w, l...)
		}
		add(t, d, m, all[next(8):]...)
	}
	return d
}

// mixedRow is a row of few pixels, some of which are none of any format.
func mixedRow(next func(int) int, length int) []api.Pixel {
	kinds := append(append(gray(0, 1, 0, 1), color(0, 0, 0, 1, 1, 0, 0, 1, 1)...), 0, 1, math.MaxUint64)
	row := make([]api.Pixel, length)
	for i := range row {
		row[i] = kinds[next(len(kinds)-next(4))]
	}
	return row
}

// What the chapter says, by other means: variants are told by the dictionary, and rows are gone through.

type model struct {
	formats  []api.Format
	variants []image.Image
	lists    map[api.Format][][]api.Pixel // of each format all rows, as they came first
	columns  [][]int
}

// modelOf is what a plan of a dictionary should tell, as it is now.
func modelOf(d *dict.Dict) *model {
	m := &model{formats: d.Formats(), lists: map[api.Format][][]api.Pixel{}}
	for v := 0; v < d.Variants(); v++ {
		i, _ := d.Variant(v)
		var column []int
		for y := range i.M.H {
			column = append(column, m.number(i.Format, i.M.L[y*i.M.W:(y+1)*i.M.W]))
		}
		m.variants, m.columns = append(m.variants, i), append(m.columns, column)
	}
	return m
}

// number is that of a row, which is a new one, if there is none such.
func (m *model) number(f api.Format, row []api.Pixel) int {
	for id, r := range m.lists[f] {
		if slices.Equal(r, row) {
			return id
		}
	}
	m.lists[f] = append(m.lists[f], row)
	return len(m.lists[f]) - 1
}

// widths is how wide a format's variants are, and how high the highest one is.
func (m *model) widths(f api.Format) ([]int, int) {
	var l []int
	height := 0
	for _, v := range m.variants {
		if v.Format == f {
			l = append(l, v.M.W)
			height = max(height, v.M.H)
		}
	}
	slices.Sort(l)
	return slices.Compact(l), height
}

func (m *model) group(f api.Format, w int) []int {
	var l []int
	for n, v := range m.variants {
		if v.Format == f && v.M.W == w {
			l = append(l, n)
		}
	}
	return l
}

// ends is the rows of a format of which the last numbers of a list are.
func (m *model) ends(f api.Format, l []api.Pixel) []int {
	var ids []int
	for id, r := range m.lists[f] {
		if len(r) <= len(l) && slices.Equal(r, l[len(l)-len(r):]) {
			ids = append(ids, id)
		}
	}
	return ids
}

func (m *model) label(f api.Format, l []api.Pixel, w int) int {
	for _, id := range m.ends(f, l) {
		if len(m.lists[f][id]) == w {
			return id
		}
	}
	return -1
}

// asked is the formats to ask of: those that there are, and others.
func (m *model) asked() []api.Format {
	l := slices.Clone(m.formats)
	for _, f := range []api.Format{{}, {Channels: 1}, {Maxval: 9}, format(2, 9), format(9, 1), format(1, 10), format(3, 254), format(-1, -9), format(1<<32+1, 9), format(math.MaxInt, math.MinInt)} {
		if !slices.Contains(l, f) {
			l = append(l, f)
		}
	}
	return l
}

// Plans held against what they should tell.

var nowhere = []int{-1, -2, -1 << 32, math.MinInt, math.MinInt + 1, 1 << 20, 1 << 32, 1<<32 + 1, 1 << 62, math.MaxInt}

// stands holds all that a plan tells but what is looked for in rows.
func stands(t *testing.T, p *Plan, m *model) {
	t.Helper()
	total := 0
	for _, f := range m.asked() {
		total += len(m.lists[f])
		widths, height := m.widths(f)
		if p.Rows(f) != len(m.lists[f]) || !slices.Equal(p.Widths(f), widths) || p.Height(f) != height {
			t.Errorf("of %v %d rows, %v wide, %d high, not %d, %v, %d", f, p.Rows(f), p.Widths(f), p.Height(f), len(m.lists[f]), widths, height)
		}
		for _, w := range slices.Concat(nowhere, rising(10), widths) {
			if l := p.Group(f, w); !slices.Equal(l, m.group(f, w)) {
				t.Errorf("of %v %v are %d wide, not %v", f, l, w, m.group(f, w))
			}
		}
	}
	if !slices.Equal(p.Formats(), m.formats) || p.Total() != total {
		t.Errorf("of the formats %v %d rows, not %v, %d", p.Formats(), p.Total(), m.formats, total)
	}
	for v, column := range m.columns {
		if l := p.Column(v); !slices.Equal(l, column) {
			t.Errorf("the column %d is %.40v, not %.40v", v, l, column)
		}
	}
	for _, v := range append(slices.Clone(nowhere), len(m.columns), len(m.columns)+1) {
		if l := p.Column(v); len(l) != 0 {
			t.Errorf("of %d, the column %d is %v", len(m.columns), v, l)
		}
	}
}

// finds holds what a plan tells of a row in which its rows are looked for.
func finds(t *testing.T, p *Plan, m *model, row []api.Pixel) {
	t.Helper()
	for _, f := range m.asked() {
		scan := p.Scan(f, row)
		if len(scan) != len(row) {
			t.Errorf("of %v %d places in %v", f, len(scan), row)
			return
		}
		for x, ids := range scan {
			if want := m.ends(f, row[:x+1]); !slices.Equal(ids, want) {
				t.Errorf("of %v end at %d of %v %v, not %v", f, x, row, ids, want)
			}
		}
		for _, w := range append(slices.Clone(nowhere), 0, 1, 2, 3, 4, 5, 6, len(row), len(row)+1) {
			var want []int
			for x := range row {
				want = append(want, m.label(f, row[:x+1], w))
			}
			if got := p.Label(f, row, w); !slices.Equal(got, want) {
				t.Errorf("Label(%v, %v, %d) = %v, not %v", f, row, w, got, want)
			}
		}
	}
}

// holds holds a plan of a dictionary against what it should tell, in some rows, too, and its variants' own.
func holds(t *testing.T, d *dict.Dict, seed int) {
	t.Helper()
	p, m := New(d), modelOf(d)
	stands(t, p, m)
	next := mixer(seed)
	for length := range 9 {
		finds(t, p, m, mixedRow(next, length))
	}
	if len(m.variants) > 0 {
		a, b := m.variants[next(len(m.variants))].M, m.variants[next(len(m.variants))].M
		finds(t, p, m, slices.Concat(a.Row(0), b.Row(b.H-1), a.Row(a.H-1)))
	}
	stands(t, p, m)
}

// P16.1

func TestPlanOfNoTemplates(t *testing.T) {
	d := dict.New()
	holds(t, d, 0)
	p := New(d)
	f := format(1, 9)
	if len(p.Formats()) != 0 || p.Rows(f) != 0 || len(p.Widths(f)) != 0 || len(p.Group(f, 1)) != 0 || len(p.Column(0)) != 0 || p.Height(f) != 0 || p.Total() != 0 {
		t.Errorf("formats %v, %d rows", p.Formats(), p.Total())
	}
	if l := p.Label(f, gray(1, 2), 1); !slices.Equal(l, []int{-1, -1}) || len(p.Scan(f, gray(1, 2))) != 2 {
		t.Errorf("%v, %v", l, p.Scan(f, gray(1, 2)))
	}
}

func TestExample(t *testing.T) {
	d := dictOf(t, grays(9, 2, 1, 2, 1, 2))
	p, f := New(d), format(1, 9)
	if !slices.Equal(p.Column(0), []int{0, 0}) || p.Rows(f) != 1 || p.Total() != 1 || p.Height(f) != 2 || !slices.Equal(p.Widths(f), []int{2}) || !slices.Equal(p.Group(f, 2), []int{0}) {
		t.Errorf("%d rows, the column %v", p.Rows(f), p.Column(0))
	}
	holds(t, d, 1)
}

// Rows are numbered as they come first: variant by variant, from the top row on.
func TestRowsAreNumberedAsTheyCome(t *testing.T) {
	d := dict.New()
	add(t, d, grays(9, 2, 1, 2, 3, 4, 1, 2, 5, 6), 0, 2)
	add(t, d, grays(9, 2, 3, 4, 7, 8, 6, 5), 0)
	add(t, d, grays(9, 1, 1, 2, 1), 0)
	add(t, d, grays(9, 2, 2, 1, 9, 9), 0, 4)
	p := New(d)
	for v, want := range [][]int{{0, 1, 0, 2}, {3, 4, 5, 4}, {1, 6, 3}, {7, 8, 7}, {4, 9}, {0, 9}} {
		if l := p.Column(v); !slices.Equal(l, want) {
			t.Errorf("the column %d is %v, not %v", v, l, want)
		}
	}
	if f := format(1, 9); p.Rows(f) != 10 || p.Total() != 10 || p.Height(f) != 4 || d.Variants() != 6 {
		t.Errorf("%d rows", p.Rows(f))
	}
	holds(t, d, 2)
}

// Each format's rows are numbered from 0 on, whatever comes in between; the same pixels of another format are other rows.
func TestFormatsHaveSetsOfTheirOwn(t *testing.T) {
	d := dictOf(t, grays(9, 2, 1, 2, 3, 4), grays(8, 2, 3, 4, 1, 2), grays(9, 2, 5, 6, 1, 2), colors(9, 1, 1, 2, 3), grays(8, 2, 5, 6), colors(8, 1, 4, 5, 6, 1, 2, 3), grays(9, 1, 1), colors(9, 1, 4, 5, 6, 1, 2, 3))
	p := New(d)
	if l := p.Formats(); !slices.Equal(l, []api.Format{format(1, 9), format(1, 8), format(3, 9), format(3, 8)}) {
		t.Errorf("formats %v", l)
	}
	for v, want := range [][]int{{0, 1}, {0, 1}, {2, 0}, {0}, {2}, {0, 1}, {3}, {1, 0}} {
		if l := p.Column(v); !slices.Equal(l, want) {
			t.Errorf("the column %d is %v, not %v", v, l, want)
		}
	}
	for i, f := range p.Formats() {
		if want := []int{4, 3, 2, 2}[i]; p.Rows(f) != want {
			t.Errorf("%d rows of %v, not %d", p.Rows(f), f, want)
		}
	}
	if p.Total() != 11 {
		t.Errorf("%d rows", p.Total())
	}
	holds(t, d, 3)
}

// A group is of one format and one width, its variants' numbers rise, whatever stands between them.
func TestGroups(t *testing.T) {
	d := dict.New()
	add(t, d, grays(9, 3, 1, 2, 3, 4, 5, 6), all...)
	add(t, d, grays(8, 3, 1, 2, 3), 0, 1)
	add(t, d, grays(9, 1, 7), all...)
	add(t, d, colors(9, 2, 1, 2, 3, 4, 5, 6), 1, 0)
	add(t, d, grays(9, 4, 1, 1, 1, 1), 0, 1)
	p := New(d)
	for _, c := range []struct {
		f      api.Format
		widths []int
		groups [][]int
		height int
	}{
		{format(1, 9), []int{1, 2, 3, 4}, [][]int{{10, 14}, {1, 3, 5, 7}, {0, 2, 4, 6}, {13}}, 4},
		{format(1, 8), []int{1, 3}, [][]int{{9}, {8}}, 3},
		{format(3, 9), []int{1, 2}, [][]int{{12}, {11}}, 2},
		{format(3, 8), nil, nil, 0},
	} {
		if l := p.Widths(c.f); !slices.Equal(l, c.widths) || p.Height(c.f) != c.height {
			t.Errorf("of %v %v wide, %d high, not %v, %d", c.f, l, p.Height(c.f), c.widths, c.height)
		}
		for i, w := range c.widths {
			if l := p.Group(c.f, w); !slices.Equal(l, c.groups[i]) {
				t.Errorf("of %v %v are %d wide, not %v", c.f, l, w, c.groups[i])
			}
		}
	}
	holds(t, d, 4)
}

// The highest one may be any of them, and the only one that is so wide.
func TestHeight(t *testing.T) {
	heights := []int{3, 1, 7, 2, 7, 5}
	for from := range heights {
		d := dict.New()
		for i := range heights {
			h := heights[(from+i)%len(heights)]
			add(t, d, grays(9, 1+i%2, slices.Repeat([]int{i}, h*(1+i%2))...), 0)
			add(t, d, grays(8, 1, slices.Repeat([]int{i}, 10)...), 0)
		}
		if p := New(d); p.Height(format(1, 9)) != 7 || p.Height(format(1, 8)) != 10 || p.Height(format(3, 9)) != 0 || p.Height(api.Format{}) != 0 {
			t.Errorf("%d and %d high", p.Height(format(1, 9)), p.Height(format(1, 8)))
		}
		holds(t, d, from)
	}
}

func TestMixedDictionaries(t *testing.T) {
	for seed := range 40 {
		holds(t, mixedDict(t, seed, 1+seed%20, 1+seed%5), seed)
	}
}

// A plan is of the dictionary as it was then.
func TestPlansOfThen(t *testing.T) {
	d := dict.New()
	var plans []*Plan
	var models []*model
	begin := func() { plans, models = append(plans, New(d)), append(models, modelOf(d)) }
	begin()
	for i, m := range []image.Image{grays(9, 2, 1, 2, 1, 2), grays(9, 1, 1, 2), grays(9, 2, 3, 4), grays(8, 2, 1, 2), colors(9, 1, 1, 2, 3), grays(9, 3, 1, 2, 1), grays(9, 2, 1, 2, 2, 1)} {
		add(t, d, m, all[i%8:]...)
		begin()
		if _, e := d.Load([]byte("P2 2 1 9 1 2 P1 1 1 1 P2 1 1 9 5 "), i); e != api.OK {
			t.Fatal(e)
		}
		begin()
	}
	for range 2 {
		for i, p := range plans {
			stands(t, p, models[i])
			finds(t, p, models[i], gray(1, 2, 1, 2, 2, 1, 3, 4, 5))
		}
	}
}

// What a plan is made of is not changed, so that the next one is the same.
func TestDictionaryIsNotChanged(t *testing.T) {
	d := mixedDict(t, 7, 20, 3)
	was := modelOf(d)
	area, templates := d.Area(), d.Templates()
	a, b := New(d), New(d)
	now := modelOf(d)
	if !slices.Equal(was.formats, now.formats) || !slices.EqualFunc(was.variants, now.variants, image.Same) || d.Area() != area || d.Templates() != templates {
		t.Error("the dictionary is another one")
	}
	stands(t, a, was)
	stands(t, b, was)
	stands(t, New(d), now)
}

// P16.2

func TestScanAndLabel(t *testing.T) {
	d := dictOf(t, grays(9, 2, 1, 2, 2, 2), grays(8, 1, 2), grays(9, 1, 2, 1), grays(9, 3, 1, 2, 2))
	p, row := New(d), gray(1, 2, 2, 1, 3)
	for _, c := range []struct {
		f      api.Format
		scan   [][]int
		labels [][]int // of the widths 1 to 4
	}{
		{format(1, 9), [][]int{{3}, {0, 2}, {1, 2, 4}, {3}, nil}, [][]int{{3, 2, 2, 3, -1}, {-1, 0, 1, -1, -1}, {-1, -1, 4, -1, -1}, {-1, -1, -1, -1, -1}}},
		{format(1, 8), [][]int{nil, {0}, {0}, nil, nil}, [][]int{{-1, 0, 0, -1, -1}, {-1, -1, -1, -1, -1}, {-1, -1, -1, -1, -1}, {-1, -1, -1, -1, -1}}},
		{format(3, 9), make([][]int, 5), slices.Repeat([][]int{{-1, -1, -1, -1, -1}}, 4)},
		{api.Format{}, make([][]int, 5), slices.Repeat([][]int{{-1, -1, -1, -1, -1}}, 4)},
	} {
		if l := p.Scan(c.f, row); !slices.EqualFunc(l, c.scan, slices.Equal[[]int]) {
			t.Errorf("of %v end %v, not %v", c.f, l, c.scan)
		}
		for i, want := range c.labels {
			if l := p.Label(c.f, row, i+1); !slices.Equal(l, want) {
				t.Errorf("of %v %d wide: %v, not %v", c.f, i+1, l, want)
			}
		}
	}
	holds(t, d, 5)
}

func TestScanAndLabelOfNoPixels(t *testing.T) {
	d := mixedDict(t, 9, 10, 3)
	p, m := New(d), modelOf(d)
	for _, f := range m.asked() {
		for _, row := range [][]api.Pixel{nil, {}, gray(1, 0)[:0]} {
			if len(p.Scan(f, row)) != 0 || len(p.Label(f, row, 1)) != 0 {
				t.Errorf("of %v something ends in no row", f)
			}
		}
	}
}

// Pixels are held against one another as they are, whatever they are of.
func TestPixelsOfNoFormat(t *testing.T) {
	d := dictOf(t, colors(deepest, 2, deepest, deepest, deepest, 0, 0, 0), grays(deepest, 1, 0, deepest), grays(1, 1, 0, 1))
	p, m := New(d), modelOf(d)
	row := slices.Concat([]api.Pixel{0, 1, deepest, 1 << 48, 2 << 48, 3 << 48, 1<<48 + deepest, 3<<48 + 1<<48 - 1, 3 << 48, math.MaxUint64, 1 << 63}, color(deepest, deepest, deepest, 0, 0, 0), gray(0, deepest, 1))
	finds(t, p, m, row)
	slices.Reverse(row)
	finds(t, p, m, row)
}

// P16.3

// No two variants of one group have one column: it tells the variant, as each of its rows is labelled so.
func TestColumnsTellVariants(t *testing.T) {
	for seed := range 30 {
		d := mixedDict(t, seed+50, count, 1+seed%4)
		p := New(d)
		for _, f := range p.Formats() {
			for _, w := range p.Widths(f) {
				group := p.Group(f, w)
				for i, v := range group {
					m, _ := d.Variant(v)
					for y, id := range p.Column(v) {
						if l := p.Label(f, m.M.Row(y), w); l[w-1] != id {
							t.Errorf("the row %d of %d is %d, not %d", y, v, l[w-1], id)
						}
					}
					for _, other := range group[:i] {
						if slices.Equal(p.Column(v), p.Column(other)) {
							t.Errorf("%d and %d are of one column, %v", other, v, p.Column(v))
						}
					}
				}
			}
		}
	}
}

// Each variant is of one group.
func TestGroupsAreAllVariants(t *testing.T) {
	for seed := range 20 {
		d := mixedDict(t, seed+90, 30, 4)
		p := New(d)
		var l []int
		for _, f := range p.Formats() {
			for _, w := range p.Widths(f) {
				l = append(l, p.Group(f, w)...)
			}
		}
		slices.Sort(l)
		if !slices.Equal(l, rising(d.Variants())) {
			t.Errorf("of %d variants %v", d.Variants(), l)
		}
	}
}

// Great dictionaries

// As many templates, each of as many variants as there may be.
func TestMostVariants(t *testing.T) {
	d := dict.New()
	for i := range count {
		add(t, d, grays(99, 3, i, 90, 91, 92, 93, 94), all...)
	}
	p, f := New(d), format(1, 99)
	if len(p.Group(f, 2)) != 4*count || len(p.Group(f, 3)) != 4*count || len(p.Column(8*count-1)) != 3 {
		t.Errorf("%d and %d variants", len(p.Group(f, 2)), len(p.Group(f, 3)))
	}
	stands(t, p, modelOf(d))
}

func TestAFormatOfEachTemplate(t *testing.T) {
	d := dict.New()
	for i := range count {
		add(t, d, grays(1+i*7%count, 2, 1, 0, 0, 1), all[i%8:]...)
	}
	p := New(d)
	if p.Total() != 2*count || len(p.Formats()) != count || p.Formats()[1] != format(1, 8) {
		t.Errorf("%d rows of %d formats", p.Total(), len(p.Formats()))
	}
	holds(t, d, 6)
}

// A variant as high as there may be, each row another one, their numbers falling.
func TestHighestVariant(t *testing.T) {
	l := rising(highest)
	slices.Reverse(l)
	p, f := New(dictOf(t, grays(deepest, 1, l...))), format(1, deepest)
	if p.Rows(f) != room || p.Total() != room || p.Height(f) != highest || !slices.Equal(p.Column(0), rising(highest)) || !slices.Equal(p.Widths(f), []int{1}) {
		t.Errorf("%d rows, %d high", p.Rows(f), p.Height(f))
	}
	row := gray(0, 7, deepest, 0)
	if ids := p.Label(f, row, 1); !slices.Equal(ids, []int{deepest, deepest - 7, 0, deepest}) {
		t.Errorf("%v", ids)
	}
	even := New(dictOf(t, grays(deepest, 1, slices.Repeat([]int{5}, highest)...)))
	if even.Rows(f) != 1 || even.Height(f) != highest || !slices.Equal(even.Column(0), make([]int, highest)) {
		t.Errorf("%d rows, %d high", even.Rows(f), even.Height(f))
	}
}

// As many pixels as there may be, in rows of the greatest width, and in all widths up to some.
func TestWideVariants(t *testing.T) {
	l := make([]int, room)
	for i := range l {
		l[i] = i % widest % 3 * (i / widest % 5)
	}
	d := dictOf(t, grays(9, widest, l...))
	p, f := New(d), format(1, 9)
	if p.Rows(f) != 5 || !slices.Equal(p.Column(0), []int{0, 1, 2, 3, 4, 0, 1, 2, 3, 4, 0, 1, 2, 3, 4, 0}) || !slices.Equal(p.Widths(f), []int{widest}) {
		t.Errorf("%d rows, %v", p.Rows(f), p.Column(0))
	}
	stands(t, p, modelOf(d))
	d = dict.New()
	for w := count; w > 0; w-- {
		add(t, d, grays(9, w, slices.Repeat([]int{1, 2}, w)...), 0)
	}
	p = New(d)
	if !slices.Equal(p.Widths(f), rising(count + 1)[1:]) || p.Height(f) != 2 {
		t.Errorf("%v wide, %d high", p.Widths(f), p.Height(f))
	}
	stands(t, p, modelOf(d))
}

// R4, R5

// overwrite overwrites all of a list, and the room behind it.
func overwrite[T any](l []T, with T) {
	l = l[:cap(l)]
	for i := range l {
		l[i] = with
	}
}

// No list that is answered shares memory with the plan, or with another one.
func TestWhatIsAnsweredIsNew(t *testing.T) {
	d := mixedDict(t, 11, 30, 4)
	p, m := New(d), modelOf(d)
	row := mixedRow(mixer(12), 30)
	for _, f := range m.asked() {
		for _, w := range p.Widths(f) {
			overwrite(p.Group(f, w), 99)
			overwrite(p.Label(f, row, w), 99)
		}
		overwrite(p.Widths(f), 99)
		scan := p.Scan(f, row)
		for x, ids := range scan {
			overwrite(ids, 99)
			if x+1 < len(row) && !slices.Equal(scan[x+1], m.ends(f, row[:x+2])) {
				t.Errorf("of %v end at %d %v", f, x+1, scan[x+1])
			}
		}
		overwrite(scan, []int{99})
	}
	for v := range m.columns {
		overwrite(p.Column(v), 99)
	}
	overwrite(p.Formats(), format(3, 99))
	stands(t, p, m)
	finds(t, p, m, row)
	stands(t, New(d), m)
}

func TestWhatIsHandedInIsNotChangedNorKept(t *testing.T) {
	d := mixedDict(t, 13, 30, 3)
	p, m := New(d), modelOf(d)
	long := mixedRow(mixer(14), 12)
	was, row := slices.Clone(long), long[:9]
	for _, f := range m.asked() {
		scan, labels := p.Scan(f, row), p.Label(f, row, 2)
		if !slices.Equal(long, was) {
			t.Errorf("%v became %v", was, long)
		}
		overwrite(long, 99)
		for x := range row {
			if !slices.Equal(scan[x], m.ends(f, was[:x+1])) || labels[x] != m.label(f, was[:x+1], 2) {
				t.Errorf("of %v end at %d %v, %d", f, x, scan[x], labels[x])
			}
		}
		finds(t, p, m, row)
		copy(long, was)
	}
	stands(t, p, m)
}

// What was asked of other formats, and of other plans, changes nothing.
func TestPlansAreTheirOwn(t *testing.T) {
	c, d := mixedDict(t, 15, 20, 3), mixedDict(t, 16, 20, 3)
	a, m := New(c), modelOf(c)
	b, o := New(d), modelOf(d)
	next := mixer(17)
	for range 5 {
		row := mixedRow(next, 10)
		finds(t, a, m, row)
		finds(t, b, o, row)
		finds(t, New(c), m, row)
	}
	stands(t, a, m)
	stands(t, b, o)
}
