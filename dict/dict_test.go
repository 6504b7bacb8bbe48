package dict

import (
	"math"
	"slices"
	"strings"
	"testing"

	"chequer/api"
	"chequer/image"
	"chequer/pnm"
	"chequer/rect"
	"chequer/turn"
)

// The greatest of each field, of a matrix, of the templates, and of all variants.
const (
	widest  = 4096
	highest = 65536
	deepest = 65535
	most    = 1 << 24
	count   = 64
	room    = 1 << 16
)

var all = []int{0, 1, 2, 3, 4, 5, 6, 7}

func gray(l ...int) []api.Pixel {
	var out []api.Pixel
	for _, n := range l {
		out = append(out, 1<<48+api.Pixel(n))
	}
	return out
}

func color(l ...int) []api.Pixel {
	var out []api.Pixel
	for a := range slices.Chunk(l, 3) {
		out = append(out, 3<<48+api.Pixel(a[0])<<32+api.Pixel(a[1])<<16+api.Pixel(a[2]))
	}
	return out
}

// of is an image of pixels, as high as there are rows of them.
func of(channels, maxval, w int, l []api.Pixel) image.Image {
	return image.Image{Format: api.Format{Channels: channels, Maxval: maxval}, M: rect.Matrix{W: w, H: len(l) / w, L: l}}
}

// grays is an image of one sample, colors one of three.
func grays(maxval, w int, l ...int) image.Image  { return of(1, maxval, w, gray(l...)) }
func colors(maxval, w int, l ...int) image.Image { return of(3, maxval, w, color(l...)) }

// even is an image of one pixel everywhere.
func even(maxval, w, h, n int) image.Image {
	return of(1, maxval, w, slices.Repeat(gray(n), w*h))
}

// dotted is an image of noughts but for one pixel, so that other dots are other images.
func dotted(maxval, w, h, at, n int) image.Image {
	m := even(maxval, w, h, 0)
	m.M.L[at] = gray(n)[0]
	return m
}

// What the chapter says, by other means: the templates stand in a list, and all else is told from it anew.

type asked struct {
	image image.Image
	turns []int
}

type model struct {
	list []asked
}

// laid is an image, mirrored and turned a quarter at a time.
func laid(m image.Image, g int) image.Image {
	var rows [][]api.Pixel
	for row := range slices.Chunk(m.M.L, m.M.W) {
		row = slices.Clone(row)
		if g > 3 {
			slices.Reverse(row)
		}
		rows = append(rows, row)
	}
	for range g % 4 {
		var turned [][]api.Pixel
		for x := range rows[0] {
			var row []api.Pixel
			for y := len(rows) - 1; y >= 0; y-- {
				row = append(row, rows[y][x])
			}
			turned = append(turned, row)
		}
		rows = turned
	}
	return of(m.Format.Channels, m.Format.Maxval, len(rows[0]), slices.Concat(rows...))
}

func same(a, b image.Image) bool {
	return a.Format == b.Format && a.M.W == b.M.W && a.M.H == b.M.H && slices.Equal(a.M.L, b.M.L)
}

// variants are the images, and the owners of each.
func (m *model) variants() ([]image.Image, [][]Owner) {
	var images []image.Image
	var owners [][]Owner
	for t, a := range m.list {
		for _, g := range a.turns {
			way := laid(a.image, g)
			at := slices.IndexFunc(images, func(o image.Image) bool { return same(o, way) })
			if at < 0 {
				at = len(images)
				images, owners = append(images, way), append(owners, nil)
			}
			owners[at] = append(owners[at], Owner{t, g})
		}
	}
	return images, owners
}

func (m *model) formats() []api.Format {
	var l []api.Format
	images, _ := m.variants()
	for _, v := range images {
		if !slices.Contains(l, v.Format) {
			l = append(l, v.Format)
		}
	}
	return l
}

func (m *model) area() int {
	n := 0
	images, _ := m.variants()
	for _, v := range images {
		n += v.M.W * v.M.H
	}
	return n
}

// add adds a template that may be, of turns that may be.
func (m *model) add(i image.Image, turns ...int) {
	i.M.L = slices.Clone(i.M.L)
	turns = slices.Clone(turns)
	slices.Sort(turns)
	m.list = append(m.list, asked{i, turns})
}

// mixer tells numbers without a rule to be seen, each below n.
func mixer(seed int) func(n int) int {
	state := uint64(seed)*2862933555777941757 + 3037000493
	return func(n int) int {
		state = state*6364136223846793005 + 1442695040888963407
		return int(state >> 33 % uint64(n))
	}
}

// mixedImage is an image of one to side pixels each way, few of which are not the same, of one of four formats.
func mixedImage(next func(int) int, side int) image.Image {
	w, h, maxval := 1+next(side), 1+next(side), 1+next(2)
	channels := []int{1, 1, 3}[next(3)]
	l := make([]int, w*h*channels)
	for i := range l {
		l[i] = next(2)
	}
	if channels == 3 {
		return colors(maxval, w, l...)
	}
	return grays(maxval, w, l...)
}

// mixedTurns are some turns, one at least, in any row.
func mixedTurns(next func(int) int) []int {
	left := slices.Clone(all)
	var l []int
	for range 1 + next(8) {
		i := next(len(left))
		l, left = append(l, left[i]), slices.Delete(left, i, i+1)
	}
	return l
}

// subsets are all lists of turns, rising, one at least.
func subsets() [][]int {
	var l [][]int
	for n := 1; n < 256; n++ {
		var turns []int
		for _, g := range all {
			if n>>g&1 == 1 {
				turns = append(turns, g)
			}
		}
		l = append(l, turns)
	}
	return l
}

// broken are images that may not be, of one format and of the other.
func broken() []image.Image {
	good := grays(9, 2, 1, 2, 3, 4)
	l := []image.Image{
		{}, {Format: good.Format}, {M: good.M},
		of(1, 0, 2, gray(0, 0)), of(1, -1, 2, gray(0, 0)), of(1, math.MinInt, 2, gray(0, 0)), of(1, deepest+1, 2, gray(0, 0)), of(1, math.MaxInt, 2, gray(0, 0)),
		of(0, 9, 2, gray(0, 0)), of(2, 9, 2, gray(0, 0)), of(4, 9, 2, gray(0, 0)), of(-1, 9, 2, gray(0, 0)),
		of(3, 9, 2, gray(1, 2)), of(1, 9, 2, color(1, 2, 3, 4, 5, 6)), of(1, 9, 2, []api.Pixel{0, 1}), of(1, 9, 1, []api.Pixel{math.MaxUint64}),
		grays(9, 2, 1, 10), grays(9, 1, 10), grays(1, 1, 2), colors(9, 1, 9, 9, 9, 9, 10, 9),
	}
	for _, side := range [][2]int{{0, 0}, {0, 4}, {4, 0}, {-2, -2}, {2, 1}, {2, 3}, {4, 4}, {math.MinInt, 2}, {math.MaxInt, math.MaxInt}, {1 << 32, 1 << 32}} {
		l = append(l, image.Image{Format: good.Format, M: rect.Matrix{W: side[0], H: side[1], L: good.M.L}})
	}
	return append(l, even(9, widest+1, 1, 0), even(9, 1, highest+1, 0))
}

var nowhere = []int{-1, -2, -1 << 32, math.MinInt, math.MinInt + 1, 8, 9, 64, 512, 1 << 32, 1<<32 + 1, 1 << 62, math.MaxInt}

// Dictionaries held against what they should tell.

func stands(t *testing.T, d *Dict, m *model) {
	t.Helper()
	images, owners := m.variants()
	if d.Templates() != len(m.list) || d.Variants() != len(images) || d.Area() != m.area() || !slices.Equal(d.Formats(), m.formats()) {
		t.Errorf("%d templates, %d variants, %d pixels, formats %v, not %d, %d, %d, %v", d.Templates(), d.Variants(), d.Area(), d.Formats(), len(m.list), len(images), m.area(), m.formats())
	}
	for n, a := range m.list {
		if i, turns, ok := d.Template(n); !ok || !same(i, a.image) || !slices.Equal(turns, a.turns) {
			t.Errorf("the template %d is %v, %v, %v, not %v, %v", n, i, turns, ok, a.image, a.turns)
		}
	}
	for n, v := range images {
		if i, ok := d.Variant(n); !ok || !same(i, v) {
			t.Errorf("the variant %d is %v, %v, not %v", n, i, ok, v)
		}
		if l := d.Owners(n); !slices.Equal(l, owners[n]) {
			t.Errorf("the variant %d has the owners %v, not %v", n, l, owners[n])
		}
	}
	for n := -1; n <= len(m.list); n++ {
		for _, g := range append(slices.Clone(all), -1, 8, 1<<32) {
			want := slices.IndexFunc(owners, func(l []Owner) bool { return slices.Contains(l, Owner{n, g}) })
			if got := d.Of(n, g); got != want {
				t.Errorf("Of(%d, %d) = %d, not %d", n, g, got, want)
			}
		}
	}
	lacks(t, d, len(m.list), len(images))
}

// lacks holds what is told where there is nothing, of a dictionary of so many templates and variants.
func lacks(t *testing.T, d *Dict, templates, variants int) {
	t.Helper()
	for _, n := range append(slices.Clone(nowhere), templates, templates+1) {
		if n >= 0 && n < templates {
			continue
		}
		if i, turns, ok := d.Template(n); ok || !same(i, image.Image{}) || len(turns) != 0 {
			t.Errorf("the template %d is %v, %v, %v", n, i, turns, ok)
		}
		for _, g := range append(slices.Clone(nowhere), 0, 7) {
			if d.Of(n, g) != -1 || templates > 0 && !turn.May(g) && d.Of(0, g) != -1 {
				t.Errorf("Of(%d, %d) = %d, of the first template %d", n, g, d.Of(n, g), d.Of(0, g))
			}
		}
	}
	for _, n := range append(slices.Clone(nowhere), variants, variants+1) {
		if n >= 0 && n < variants {
			continue
		}
		if i, ok := d.Variant(n); ok || !same(i, image.Image{}) || len(d.Owners(n)) != 0 {
			t.Errorf("the variant %d is %v, %v, of %v", n, i, ok, d.Owners(n))
		}
	}
}

// add adds to a dictionary, and to its model.
func add(t *testing.T, d *Dict, m *model, i image.Image, turns ...int) {
	t.Helper()
	if n, e := d.Add(i, turns...); n != len(m.list) || e != api.OK {
		t.Fatalf("Add(%d by %d, %v) = %d, %v, not %d", i.M.W, i.M.H, turns, n, e, len(m.list))
	}
	m.add(i, turns...)
}

// refuses holds that something may not be added.
func refuses(t *testing.T, d *Dict, want api.Errno, i image.Image, turns ...int) {
	t.Helper()
	if n, e := d.Add(i, turns...); n != -1 || e != want {
		t.Errorf("Add(%v %d by %d, %v) = %d, %v, not -1, %v", i.Format, i.M.W, i.M.H, turns, n, e, want)
	}
}

// P15.1

func TestNewIsWithoutTemplates(t *testing.T) {
	d := New()
	stands(t, d, &model{})
	if d.Templates() != 0 || d.Variants() != 0 || d.Area() != 0 || len(d.Formats()) != 0 || d.Of(0, 0) != -1 || len(d.Owners(0)) != 0 {
		t.Errorf("%d templates, %d variants, %d pixels, formats %v", d.Templates(), d.Variants(), d.Area(), d.Formats())
	}
}

func TestExample(t *testing.T) {
	d, m := New(), &model{}
	add(t, d, m, grays(9, 2, 1, 2, 2, 1), all...)
	stands(t, d, m)
	if d.Variants() != 2 || len(d.Owners(0)) != 4 || len(d.Owners(1)) != 4 || d.Area() != 8 {
		t.Errorf("%d variants, of %v and %v", d.Variants(), d.Owners(0), d.Owners(1))
	}
	if !slices.Equal(d.Owners(0), []Owner{{0, 0}, {0, 2}, {0, 5}, {0, 7}}) {
		t.Errorf("the first one of %v", d.Owners(0))
	}
}

// Of each template, by all turns, some variants are the same.
func TestSymmetricTemplates(t *testing.T) {
	for i, c := range []struct {
		m        image.Image
		variants int
	}{
		{grays(9, 1, 5), 1}, {grays(9, 2, 1, 1, 1, 1), 1}, {grays(9, 3, 1, 2, 1, 2, 3, 2, 1, 2, 1), 1}, {grays(9, 2, 1, 1), 2}, {grays(9, 2, 1, 2), 4}, {grays(9, 2, 1, 2, 2, 1), 2},
		{grays(9, 2, 1, 2, 3, 4), 8}, {grays(9, 2, 1, 2, 1, 2), 4}, {grays(9, 2, 1, 2, 2, 3), 4}, {grays(9, 3, 1, 2, 0, 0, 2, 1), 4}, {grays(9, 3, 1, 2, 1, 0, 0, 0), 4}, {colors(9, 2, 1, 2, 3, 3, 2, 1), 4},
		{grays(9, 4, 0, 1, 0, 0, 0, 0, 0, 1, 1, 0, 0, 0, 0, 0, 1, 0), 2}, {grays(9, 3, 1, 2, 3, 4, 5, 6), 8},
	} {
		d, m := New(), &model{}
		add(t, d, m, c.m, all...)
		stands(t, d, m)
		if d.Variants() != c.variants || d.Area() != c.variants*len(c.m.M.L) {
			t.Errorf("%d: %d variants, %d pixels, not %d", i, d.Variants(), d.Area(), c.variants)
		}
	}
}

// However turns are handed in, they rise.
func TestTurnsRise(t *testing.T) {
	for i, turns := range subsets() {
		d, m := New(), &model{}
		slices.Reverse(turns)
		add(t, d, m, grays(9, 2, 1, 2, 3, 4, 5, 6), turns...)
		middle := len(turns) / 2
		add(t, d, m, grays(9, 2, i%3, 2, 2, i%2), slices.Concat(turns[middle:], turns[:middle])...)
		stands(t, d, m)
	}
}

// What is laid alike has one variant, whichever template, and whichever turn it is of, of one format alone.
func TestVariantsOfManyTemplates(t *testing.T) {
	d, m := New(), &model{}
	way := grays(9, 2, 1, 2, 3, 4)
	add(t, d, m, way, 0)
	add(t, d, m, laid(way, 1), 1, 3)
	add(t, d, m, way, 0, 2)
	add(t, d, m, grays(8, 2, 1, 2, 3, 4), 0)
	add(t, d, m, laid(way, 6), 6, 0)
	add(t, d, m, colors(9, 1, 0, 0, 1), 5)
	add(t, d, m, grays(9, 1, 1), 5)
	add(t, d, m, grays(9, 4, 1, 2, 3, 4), 0, 1)
	add(t, d, m, grays(9, 1, 1, 2, 3, 4), 1, 0, 2)
	add(t, d, m, grays(8, 2, 1, 2, 3, 4), 0)
	stands(t, d, m)
	if !slices.Equal(d.Owners(0), []Owner{{0, 0}, {1, 3}, {2, 0}, {4, 6}}) || d.Variants() != 10 {
		t.Errorf("the first of %d is of %v", d.Variants(), d.Owners(0))
	}
	if !slices.Equal(d.Formats(), []api.Format{{Channels: 1, Maxval: 9}, {Channels: 1, Maxval: 8}, {Channels: 3, Maxval: 9}}) {
		t.Errorf("formats %v", d.Formats())
	}
}

func TestMixedTemplates(t *testing.T) {
	for seed := range 60 {
		d, m := New(), &model{}
		next := mixer(seed)
		for range 5 + seed%20 {
			add(t, d, m, mixedImage(next, 1+seed%4), mixedTurns(next)...)
			if seed%5 == 0 {
				stands(t, d, m)
			}
		}
		stands(t, d, m)
	}
}

// Formats are told as they came, however many there are.
func TestFormatsInTheirRow(t *testing.T) {
	d, m := New(), &model{}
	next := mixer(5)
	for range count {
		maxval := []int{1, deepest, 255, 256, 9, 7, 300, 2, 1 << 15, 77, 6, 5, 4, 3, 254}[next(15)]
		if next(2) == 0 {
			add(t, d, m, grays(maxval, 1, 1), 0)
		} else {
			add(t, d, m, colors(maxval, 1, 1, 0, 1), 0)
		}
	}
	for range 8 {
		stands(t, d, m)
	}
}

func TestAddOfWrongTurns(t *testing.T) {
	d, m := New(), &model{}
	good := grays(9, 2, 1, 2)
	for round := range 3 {
		for _, turns := range [][]int{
			nil, {}, {0, 0}, {7, 7}, {0, 1, 0}, {1, 2, 3, 4, 5, 6, 7, 7}, {0, 1, 2, 3, 4, 5, 6, 7, 0}, append(slices.Clone(all), 8), append([]int{-1}, all...),
			slices.Repeat([]int{3}, 1<<20), slices.Repeat(all, 2), {0, 256}, {1 << 32, 0}, {4, -4},
		} {
			refuses(t, d, api.ErrArg, good, turns...)
		}
		for _, g := range nowhere {
			refuses(t, d, api.ErrArg, good, g)
			refuses(t, d, api.ErrArg, good, 0, g)
			refuses(t, d, api.ErrArg, good, g, 0)
			refuses(t, d, api.ErrArg, good, 6, g, 0)
		}
		stands(t, d, m)
		add(t, d, m, good, round)
	}
	stands(t, d, m)
}

func TestAddOfWrongImages(t *testing.T) {
	d, m := New(), &model{}
	for round := range 3 {
		for _, i := range broken() {
			for _, turns := range [][]int{{0}, all, nil, {8}} {
				refuses(t, d, api.ErrArg, i, turns...)
			}
		}
		stands(t, d, m)
		add(t, d, m, grays(9, 2, 1, 2), round)
	}
	stands(t, d, m)
}

// What is higher than the widest may be is laid by no turn that makes its height its width.
func TestAddOfWhatCannotBeLaid(t *testing.T) {
	d, m := New(), &model{}
	for _, h := range []int{widest + 1, highest} {
		high := dotted(9, 1, h, 0, 1)
		for _, turns := range subsets() {
			if slices.ContainsFunc(turns, func(g int) bool { return g%2 == 1 }) {
				refuses(t, d, api.ErrRange, high, turns...)
				slices.Reverse(turns)
				refuses(t, d, api.ErrRange, high, turns...)
			}
		}
	}
	stands(t, d, m)
	add(t, d, m, dotted(9, 1, widest+1, 7, 1), 6, 4, 2, 0)
	add(t, d, m, dotted(9, 1, widest, 7, 1), 1)
	add(t, d, m, dotted(9, widest, 1, 8, 1), all...)
	stands(t, d, m)
	d, m = New(), &model{}
	add(t, d, m, even(9, 1, highest, 1), 2, 0, 4, 6)
	stands(t, d, m)
}

func TestFullOfTemplates(t *testing.T) {
	d, m := New(), &model{}
	for i := range count {
		add(t, d, m, grays(9, 2, i%3, i%7), i%8)
	}
	for range 2 {
		refuses(t, d, api.ErrFull, grays(9, 2, 0, 0), 0)
		refuses(t, d, api.ErrFull, grays(7, 1, 5), all...)
		refuses(t, d, api.ErrFull, even(9, 256, 257, 0), 0)
		refuses(t, d, api.ErrRange, even(9, 1, widest+1, 0), 0, 1)
		refuses(t, d, api.ErrArg, even(9, 1, widest+1, 0), 1, 1)
		refuses(t, d, api.ErrArg, grays(9, 2, 0, 10), 0)
		refuses(t, d, api.ErrArg, grays(9, 2, 0, 0))
		stands(t, d, m)
	}
}

// Each template with eight variants of its own.
func TestAsManyVariantsAsMayBe(t *testing.T) {
	d, m := New(), &model{}
	for i := range count {
		add(t, d, m, grays(99, 3, i, 90, 91, 92, 93, 94), all...)
	}
	stands(t, d, m)
	if d.Variants() != 8*count || d.Of(count-1, 7) != 8*count-1 || d.Area() != 6*8*count {
		t.Errorf("%d variants, %d pixels", d.Variants(), d.Area())
	}
}

// All variants have as many pixels as they may: what needs none more is added still.
func TestFullOfPixels(t *testing.T) {
	d, m := New(), &model{}
	add(t, d, m, even(9, 256, 256, 4), 7, 3, 0)
	if d.Area() != room {
		t.Errorf("%d pixels", d.Area())
	}
	refuses(t, d, api.ErrFull, grays(9, 1, 4), 0)
	refuses(t, d, api.ErrFull, even(8, 256, 256, 4), 0)
	refuses(t, d, api.ErrFull, dotted(9, 256, 256, 7, 1), 0)
	refuses(t, d, api.ErrRange, even(9, 1, widest+1, 0), 1)
	refuses(t, d, api.ErrArg, even(9, 1, widest+1, 0), 1, 8)
	refuses(t, d, api.ErrArg, grays(9, 1, 10), 0)
	stands(t, d, m)
	add(t, d, m, even(9, 256, 256, 4), all...)
	stands(t, d, m)
	for len(m.list) < count {
		add(t, d, m, even(9, 256, 256, 4), 1)
	}
	refuses(t, d, api.ErrFull, even(9, 256, 256, 4), 1)
	stands(t, d, m)
}

// With one pixel too many nothing is changed, though some of its variants would have had room, or were there.
func TestFullOfSomeTurns(t *testing.T) {
	d, m := New(), &model{}
	dot := dotted(9, 256, 64, 3, 1)
	add(t, d, m, dot, 0, 6)
	refuses(t, d, api.ErrFull, even(7, 256, 129, 0), 0)
	refuses(t, d, api.ErrFull, dot, 0, 1, 2, 3)
	refuses(t, d, api.ErrFull, dot, all...)
	stands(t, d, m)
	add(t, d, m, dot, 6, 4)
	add(t, d, m, even(8, 127, 128, 0), 5)
	stands(t, d, m)
	refuses(t, d, api.ErrFull, even(7, 129, 1, 0), 0)
	refuses(t, d, api.ErrFull, dotted(6, 65, 1, 0, 1), 0, 2)
	refuses(t, d, api.ErrFull, dotted(6, 43, 1, 0, 1), 0, 1, 2)
	stands(t, d, m)
	add(t, d, m, dotted(6, 64, 1, 0, 1), 0, 2)
	if d.Area() != room {
		t.Errorf("%d pixels", d.Area())
	}
	refuses(t, d, api.ErrFull, grays(5, 1, 0), 0)
	add(t, d, m, laid(dot, 1), 3, 5)
	stands(t, d, m)
}

// The greatest that may be are refused as the row of errors has it.
func TestAddOfGreatImages(t *testing.T) {
	d, m := New(), &model{}
	square, high := even(9, widest, widest, 3), even(9, 256, highest, 3)
	for _, turns := range [][]int{{0}, {1}, {6, 3}, all} {
		refuses(t, d, api.ErrFull, square, turns...)
	}
	refuses(t, d, api.ErrRange, high, 1)
	refuses(t, d, api.ErrRange, high, all...)
	refuses(t, d, api.ErrFull, high, 0, 2, 4, 6)
	refuses(t, d, api.ErrFull, dotted(9, 1, highest, 5, 1), 0, 2)
	square.M.L[most-1] = gray(10)[0]
	refuses(t, d, api.ErrArg, square, 0)
	stands(t, d, m)
	add(t, d, m, dotted(9, 1, highest, 5, 1), 2)
	if v, ok := d.Variant(0); !ok || !same(v, dotted(9, 1, highest, highest-6, 1)) {
		t.Errorf("%d by %d, %v", v.M.W, v.M.H, ok)
	}
	stands(t, d, m)
}

// P15.2

// loads loads a stream, and adds its images to the model.
func loads(t *testing.T, d *Dict, m *model, b []byte, images []image.Image, turns ...int) {
	t.Helper()
	var want []int
	for _, i := range images {
		want = append(want, len(m.list))
		m.add(i, turns...)
	}
	if l, e := d.Load(b, turns...); e != api.OK || !slices.Equal(l, want) {
		t.Errorf("Load(%.40q, %v) = %v, %v, not %v", b, turns, l, e, want)
	}
	stands(t, d, m)
}

func bars(t *testing.T, d *Dict, want api.Errno, s string, turns ...int) {
	t.Helper()
	if l, e := d.Load([]byte(s), turns...); len(l) != 0 || e != want {
		t.Errorf("Load(%.40q, %v) = %v, %v, not %v", s, turns, l, e, want)
	}
}

func TestLoad(t *testing.T) {
	d, m := New(), &model{}
	loads(t, d, m, []byte("P2 1 1 9 4 P4 1 1 \x80"), []image.Image{grays(9, 1, 4), grays(1, 1, 1)}, 0, 1)
	add(t, d, m, grays(9, 2, 1, 2, 3, 4), 3, 2)
	loads(t, d, m, []byte(" \n P5 2 2 9 \x03\x01\x04\x02\t\tP1#w\n3 1 101\nP3 1 1 7 1 2 3"), []image.Image{grays(9, 2, 3, 1, 4, 2), grays(1, 3, 1, 0, 1), colors(7, 1, 1, 2, 3)}, 7, 1, 0)
	loads(t, d, m, []byte("P6 1 2 300 \x00\x01\x01\x2c\x00\x00\x00\x09\x00\x00\x00\x00 \n"), []image.Image{colors(300, 1, 1, 300, 0, 9, 0, 0)}, all...)
	loads(t, d, m, []byte("P2 2 1 65535 65535 0"), []image.Image{grays(deepest, 2, deepest, 0)}, 4)
}

// Of whatever kinds, it adds what Add would, one by one.
func TestLoadOfMixedImages(t *testing.T) {
	for seed := range 30 {
		d, m := New(), &model{}
		next := mixer(seed + 50)
		for len(m.list) < count-5 {
			var images []image.Image
			var kinds []int
			for range 1 + next(5) {
				i := mixedImage(next, 3)
				may := image.Kinds(i.Format)
				images, kinds = append(images, i), append(kinds, may[next(len(may))])
			}
			b, e := pnm.Join(images, kinds)
			if e != api.OK {
				t.Fatal(e)
			}
			loads(t, d, m, b, images, mixedTurns(next)...)
		}
	}
}

// What is no stream is told ahead of all that may not be added.
func TestLoadOfWrongStreams(t *testing.T) {
	d, m := New(), &model{}
	for round := range 3 {
		for _, turns := range [][]int{{0}, all, nil, {8}, {3, 3}} {
			for _, ahead := range []string{"", " \n", "P4 1 1 \x80", "P2 1 1 9 4\n\t", "P4 1 1 \x00P5 1 1 8 \x07 "} {
				bars(t, d, api.ErrMagic, ahead+"x", turns...)
				bars(t, d, api.ErrMagic, ahead+"P7 1 1 1 1", turns...)
				bars(t, d, api.ErrMagic, ahead+"Px", turns...)
				bars(t, d, api.ErrNumber, ahead+"P4x", turns...)
				bars(t, d, api.ErrNumber, ahead+"P5 1 x", turns...)
				bars(t, d, api.ErrRange, ahead+"P5 4097 ", turns...)
				bars(t, d, api.ErrRange, ahead+"P5 1 65537 ", turns...)
				bars(t, d, api.ErrRange, ahead+"P5 1 1 65536 ", turns...)
				bars(t, d, api.ErrRange, ahead+"P4 0 1 ", turns...)
				bars(t, d, api.ErrSample, ahead+"P5 1 1 9 x", turns...)
				bars(t, d, api.ErrSample, ahead+"P2 1 1 9 10 ", turns...)
				bars(t, d, api.ErrShort, ahead+"P", turns...)
				bars(t, d, api.ErrShort, ahead+"P4 1 1 ", turns...)
				bars(t, d, api.ErrShort, ahead+"P5 1 5000 9 ", turns...)
				bars(t, d, api.ErrShort, ahead+"P2 2 1 9 1", turns...)
			}
			bars(t, d, api.ErrMagic, strings.Repeat("P4 1 1 \x80", count+1)+"x", turns...)
			bars(t, d, api.ErrShort, "P4 1 4097 "+strings.Repeat("\x80", widest+1)+"P", turns...)
		}
		stands(t, d, m)
		add(t, d, m, grays(9, 2, 1, 2), round)
	}
}

func TestLoadOfNoImages(t *testing.T) {
	d, m := New(), &model{}
	for range 2 {
		for _, turns := range [][]int{{0}, all, nil, {8}} {
			for _, s := range []string{"", " ", "\n\n\t \r\v\f"} {
				bars(t, d, api.ErrArg, s, turns...)
			}
		}
		if l, e := d.Load(nil, 0); len(l) != 0 || e != api.ErrArg {
			t.Errorf("%v, %v", l, e)
		}
		stands(t, d, m)
		add(t, d, m, grays(9, 2, 1, 2), 0)
	}
}

// Where one may not be added, none is, those ahead neither.
func TestLoadOfWhatMayNotBeAdded(t *testing.T) {
	d, m := New(), &model{}
	const dot, high = "P4 1 1 \x80", "P2 1 4097 9"
	long := high + strings.Repeat(" 1", widest+1) + "\n"
	great := "P5 256 256 9 " + strings.Repeat("\x09", room)
	over := "P4 4096 4097 " + strings.Repeat("\x00", 512*(widest+1)) // more pixels than a matrix may have
	for round := range 3 {
		for _, turns := range append([][]int{nil, {}, {8}, {-1, 0}, {0, 0}}, slices.Repeat(all, 2)) {
			bars(t, d, api.ErrArg, dot, turns...)
			bars(t, d, api.ErrArg, "P3 1 1 5 1 2 3 "+dot+" ", turns...)
			bars(t, d, api.ErrArg, long+great+great, turns...)
		}
		bars(t, d, api.ErrRange, "P3 1 1 5 1 2 3 "+dot+long, 0, 1)
		bars(t, d, api.ErrRange, dot+long+great+dot, 7)
		bars(t, d, api.ErrFull, dot+great+long, 7)
		bars(t, d, api.ErrFull, great+dot, 0)
		bars(t, d, api.ErrFull, "P5 2 1 9 \x01\x02"+great, 1, 0)
		bars(t, d, api.ErrFull, strings.Repeat(dot, count+1), 0)
		bars(t, d, api.ErrFull, strings.Repeat(dot, count+1)+long, 1)
		bars(t, d, api.ErrRange, strings.Repeat(dot, count-round)+long, 1)
		stands(t, d, m)
		add(t, d, m, grays(1, 1, 1), round)
		stands(t, d, m)
	}
	bars(t, d, api.ErrArg, dot+over, 0)
	bars(t, d, api.ErrArg, over+great+great, 0)
	loads(t, d, m, []byte(strings.Repeat(dot, count-3)), slices.Repeat([]image.Image{grays(1, 1, 1)}, count-3), 5)
	bars(t, d, api.ErrFull, dot, 5)
	stands(t, d, m)
}

// A load that was refused leaves no trace in what is added, loaded and told then.
func TestLoadsInBetween(t *testing.T) {
	for seed := range 4 {
		d, m := New(), &model{}
		next := mixer(seed + 80)
		for range 20 {
			bars(t, d, api.ErrFull, "P2 2 2 1 0 1 1 1 P3 1 1 77 1 2 3 P1 2 1 01 P2 1 1 2 1 P1 256 256 "+strings.Repeat("01", room/2)+"P1 1 2 11", mixedTurns(next)...)
			add(t, d, m, mixedImage(next, 2), mixedTurns(next)...)
			stands(t, d, m)
			i := mixedImage(next, 3)
			b, _ := image.Write(i, image.Kinds(i.Format)[0])
			loads(t, d, m, b, []image.Image{i}, mixedTurns(next)...)
		}
	}
}

// P15.3

// Each turn of each template is laid as just one variant, which is told by it, and no two variants are the same.
func TestEachTurnIsLaidAsOneVariant(t *testing.T) {
	for seed := range 40 {
		d := New()
		next := mixer(seed + 100)
		for range 1 + next(count) {
			if _, e := d.Add(mixedImage(next, 1+seed%3), mixedTurns(next)...); e != api.OK {
				t.Fatal(e)
			}
		}
		turns := 0
		for n := range d.Templates() {
			i, l, _ := d.Template(n)
			turns += len(l)
			for _, g := range l {
				way, e := turn.Lay(i.M, g)
				v, ok := d.Variant(d.Of(n, g))
				if e != api.OK || !ok || !image.Same(v, image.Image{Format: i.Format, M: way}) {
					t.Errorf("%v, by %d, is %v", i, g, v)
				}
			}
		}
		owners := 0
		for n := range d.Variants() {
			v, _ := d.Variant(n)
			l := d.Owners(n)
			owners += len(l)
			for _, o := range l {
				if d.Of(o.Template, o.Turn) != n {
					t.Errorf("%v owns %d, not %d", o, d.Of(o.Template, o.Turn), n)
				}
			}
			for other := range n {
				if o, _ := d.Variant(other); image.Same(o, v) {
					t.Errorf("%d and %d are the same", other, n)
				}
			}
		}
		if owners != turns {
			t.Errorf("%d owners of %d turns", owners, turns)
		}
	}
}

// R4, R5

// overwrite overwrites all of a list, and the room behind it.
func overwrite[T any](l []T, with T) {
	l = l[:cap(l)]
	for i := range l {
		l[i] = with
	}
}

func TestWhatIsHandedInIsNotChangedNorKept(t *testing.T) {
	d, m := New(), &model{}
	next := mixer(150)
	for range 30 {
		i, turns := mixedImage(next, 3), mixedTurns(next)
		roomy := i
		roomy.M.L = append(slices.Clone(i.M.L), gray(77, 78)...)[:len(i.M.L)]
		wide := append(slices.Clone(turns), 6, 6)
		pixels, numbers := slices.Clone(roomy.M.L[:len(i.M.L)+2]), slices.Clone(wide)
		add(t, d, m, roomy, wide[:len(turns)]...)
		if !slices.Equal(roomy.M.L[:len(i.M.L)+2], pixels) || !slices.Equal(wide, numbers) {
			t.Errorf("%v, %v became %v, %v", pixels, numbers, roomy.M.L, wide)
		}
		overwrite(roomy.M.L, 5)
		overwrite(wide, 5)
		stands(t, d, m)
	}
	const stream = "P4 1 1 \x80P2 2 1 9 1 2"
	b, turns := []byte(stream+" spare"), []int{7, 1, 0, 6, 6}
	was, asked := slices.Clone(b), slices.Clone(turns)
	loads(t, d, m, b[:len(stream)], []image.Image{grays(1, 1, 1), grays(9, 2, 1, 2)}, turns[:3]...)
	if !slices.Equal(b, was) || !slices.Equal(turns, asked) {
		t.Errorf("became %q, %v", b, turns)
	}
	overwrite(b, 'P')
	overwrite(turns, 5)
	stands(t, d, m)
}

// No list that is answered shares memory with the dictionary, or with another one.
func TestWhatIsAnsweredIsNew(t *testing.T) {
	d, m := New(), &model{}
	next := mixer(160)
	for range 25 {
		add(t, d, m, mixedImage(next, 3), mixedTurns(next)...)
	}
	l, e := d.Load([]byte("P1 1 1 1 P2 2 2 9 1 2 3 4"), 0, 3)
	if e != api.OK {
		t.Fatal(e)
	}
	m.add(grays(1, 1, 1), 0, 3)
	m.add(grays(9, 2, 1, 2, 3, 4), 0, 3)
	overwrite(l, 99)
	for n := range d.Templates() {
		i, turns, _ := d.Template(n)
		overwrite(i.M.L, 99)
		overwrite(turns, 99)
	}
	for n := range d.Variants() {
		i, _ := d.Variant(n)
		overwrite(i.M.L, 99)
		overwrite(d.Owners(n), Owner{99, 99})
	}
	overwrite(d.Formats(), api.Format{Channels: 3, Maxval: 99})
	stands(t, d, m)
	add(t, d, m, mixedImage(next, 3), mixedTurns(next)...)
	stands(t, d, m)
}

func TestDictionariesAreTheirOwn(t *testing.T) {
	a, m := New(), &model{}
	b, o := New(), &model{}
	next := mixer(170)
	for range 12 {
		i, turns := mixedImage(next, 2), mixedTurns(next)
		add(t, a, m, i, turns...)
		add(t, b, o, i, turns[:1]...)
		loads(t, b, o, []byte("P2 1 2 7 1 2"), []image.Image{grays(7, 1, 1, 2)}, turns...)
		stands(t, a, m)
		stands(t, b, o)
	}
}

// Owners can be compared by ==.
func TestOwnersAreCompared(t *testing.T) {
	if (Owner{1, 2}) != (Owner{Template: 1, Turn: 2}) || (Owner{1, 2}) == (Owner{2, 1}) {
		t.Error("owners")
	}
}
