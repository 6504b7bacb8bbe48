package pnm

import (
	"bytes"
	"math"
	"slices"
	"strconv"
	"strings"
	"testing"

	"chequer/api"
	"chequer/head"
	"chequer/image"
	"chequer/rect"
)

const (
	widest  = 4096
	highest = 65536
	deepest = 65535
	blanks  = "\t\n\v\f\r "
)

func gray(l ...int) []api.Pixel {
	var out []api.Pixel
	for _, n := range l {
		out = append(out, 1<<48+api.Pixel(n))
	}
	return out
}

func color(l ...int) []api.Pixel {
	var out []api.Pixel
	for a := range slices.Chunk(l, 3) {
		out = append(out, 3<<48+api.Pixel(a[0])<<32+api.Pixel(a[1])<<16+api.Pixel(a[2]))
	}
	return out
}

// grays is an image of one sample, colors one of three, as high as there are rows of the width.
func grays(maxval, w int, l ...int) image.Image {
	return image.Image{Format: api.Format{Channels: 1, Maxval: maxval}, M: rect.Matrix{W: w, H: len(l) / w, L: gray(l...)}}
}

func colors(maxval, w int, l ...int) image.Image {
	return image.Image{Format: api.Format{Channels: 3, Maxval: maxval}, M: rect.Matrix{W: w, H: len(l) / w / 3, L: color(l...)}}
}

// mixed are samples from 0 up to maxval.
func mixed(n, maxval, seed int) []int {
	l := make([]int, n)
	for i := range l {
		l[i] = (seed*7919 + i*i*31 + i*104729) % (maxval + 1)
	}
	return l
}

// begin, row and done are events.
func begin(channels, maxval, w, h int) Event {
	return Event{Kind: 1, Format: api.Format{Channels: channels, Maxval: maxval}, W: w, H: h}
}

func row(l []api.Pixel) Event { return Event{Kind: 2, Row: l} }

func done() Event { return Event{Kind: 3} }

// alike tells whether all of two events is the same.
func alike(a, b Event) bool {
	return a.Kind == b.Kind && a.Format == b.Format && a.W == b.W && a.H == b.H && slices.Equal(a.Row, b.Row)
}

func allAlike(a, b []Event) bool { return slices.EqualFunc(a, b, alike) }

// What the chapter says of a stream, by other means: of the whole text at once.

// told is events, with how many bytes they were told.
type told struct {
	n int
	l []Event
}

type model struct {
	s      string
	l      api.Limits
	pos    int // how many bytes it took
	puts   []told
	ends   []Event // that the end of the bytes told
	ended  bool    // a number ended with the bytes
	e      api.Errno
	format api.Format
}

func modelOf(s string, l api.Limits) *model {
	m := &model{s: s, l: l}
	for {
		for m.pos < len(s) && strings.IndexByte(blanks, s[m.pos]) >= 0 {
			m.pos++
		}
		if m.pos == len(s) || !m.image() {
			return m
		}
	}
}

// at is the error, and with how many bytes it is.
func (m *model) at() (api.Errno, int) {
	if m.e == api.OK {
		return api.OK, 0
	}
	return m.e, m.pos
}

// images is how many images were done with n bytes, and their end, if that was told.
func (m *model) images(n int, end bool) int {
	count := 0
	for _, x := range m.puts {
		if x.n <= n {
			count += strings.Count(kindsOf(x.l), "d")
		}
	}
	if end {
		count += strings.Count(kindsOf(m.ends), "d")
	}
	return count
}

// with is the events that the n-th byte tells.
func (m *model) with(n int) []Event {
	for _, x := range m.puts {
		if x.n == n {
			return x.l
		}
	}
	return nil
}

func (m *model) wrong(e api.Errno) bool {
	m.e = e
	return false
}

func (m *model) tell(v Event) {
	switch n := len(m.puts); {
	case m.ended:
		m.ends = append(m.ends, v)
	case n > 0 && m.puts[n-1].n == m.pos:
		m.puts[n-1].l = append(m.puts[n-1].l, v)
	default:
		m.puts = append(m.puts, told{m.pos, []Event{v}})
	}
}

// next is the next byte; no more is, of the end of the bytes.
func (m *model) next() (byte, bool) {
	if m.pos == len(m.s) {
		return 0, m.wrong(api.ErrShort)
	}
	m.pos++
	return m.s[m.pos-1], true
}

// image takes one whole: whether there was one.
func (m *model) image() bool {
	kind, ok := m.magic()
	if !ok {
		return false
	}
	numbers := []int{0, 0, 1}
	most := []int{min(max(m.l.Width, 1), widest), min(max(m.l.Height, 1), highest), min(max(m.l.Maxval, 1), deepest)}
	if kind == 1 || kind == 4 {
		most = most[:2]
	}
	for i, n := range most {
		if numbers[i], ok = m.headNumber(n); !ok {
			return false
		}
	}
	w, h, maxval := numbers[0], numbers[1], numbers[2]
	m.format = api.Format{Channels: 1, Maxval: maxval}
	if kind%3 == 0 {
		m.format.Channels = 3
	}
	m.tell(Event{Kind: Begin, Format: m.format, W: w, H: h})
	for range h {
		l, ok := m.row(kind, w)
		if !ok {
			return false
		}
		m.tell(Event{Kind: Row, Row: l})
	}
	m.tell(Event{Kind: Done})
	return true
}

// magic takes what a head begins with, and looks at the byte behind it.
func (m *model) magic() (int, bool) {
	if c, _ := m.next(); c != 'P' {
		return 0, m.wrong(api.ErrMagic)
	}
	kind, ok := m.next()
	switch {
	case !ok:
		return 0, false
	case strings.IndexByte("123456", kind) < 0:
		return 0, m.wrong(api.ErrMagic)
	}
	if m.pos < len(m.s) && strings.IndexByte(blanks+"#", m.s[m.pos]) < 0 {
		m.pos++
		return 0, m.wrong(api.ErrNumber)
	}
	return int(kind - '0'), true
}

// remark takes all up to the byte that ends it.
func (m *model) remark() bool {
	for {
		switch c, ok := m.next(); {
		case !ok:
			return false
		case c == 10 || c == 13:
			return true
		}
	}
}

func (m *model) headNumber(most int) (int, bool) {
	n, digits := 0, 0
	for {
		c, ok := m.next()
		blank := strings.IndexByte(blanks, c) >= 0
		switch {
		case !ok:
			return 0, false
		case c == '#' && !m.remark():
			return 0, false
		case (c == '#' || blank) && digits == 0:
		case (c == '#' || blank) && n == 0:
			return 0, m.wrong(api.ErrRange)
		case c == '#' || blank:
			return n, true
		case c < '0' || c > '9':
			return 0, m.wrong(api.ErrNumber)
		default:
			digits++
			if n = 10*n + int(c-'0'); n > most {
				return 0, m.wrong(api.ErrRange)
			}
		}
	}
}

// row takes a row's pixels.
func (m *model) row(kind, w int) ([]api.Pixel, bool) {
	var l []int
	for len(l) < w*m.format.Channels {
		got, ok := m.samples(kind, w-len(l))
		if !ok {
			return nil, false
		}
		l = append(l, got...)
	}
	if m.format.Channels == 3 {
		return color(l...), true
	}
	return gray(l...), true
}

// samples takes a sample, or those of an eighth.
func (m *model) samples(kind, left int) ([]int, bool) {
	var n int
	var ok bool
	switch kind {
	case 1:
		n, ok = m.bit()
	case 2, 3:
		n, ok = m.digits()
	case 4:
		return m.eighth(min(8, left))
	default:
		n, ok = m.inBytes()
	}
	return []int{n}, ok
}

func (m *model) bit() (int, bool) {
	for {
		switch c, ok := m.next(); {
		case !ok:
			return 0, false
		case c == '0' || c == '1':
			return int(c - '0'), true
		case strings.IndexByte(blanks, c) < 0:
			return 0, m.wrong(api.ErrNumber)
		}
	}
}

func (m *model) digits() (int, bool) {
	n, digits := 0, 0
	for {
		if digits > 0 && m.pos == len(m.s) {
			m.ended = true
			return n, true
		}
		c, ok := m.next()
		switch {
		case !ok:
			return 0, false
		case strings.IndexByte(blanks, c) >= 0 && digits == 0:
		case strings.IndexByte(blanks, c) >= 0:
			return n, true
		case c < '0' || c > '9':
			return 0, m.wrong(api.ErrNumber)
		default:
			digits++
			if n = 10*n + int(c-'0'); n > m.format.Maxval {
				return 0, m.wrong(api.ErrSample)
			}
		}
	}
}

func (m *model) eighth(n int) ([]int, bool) {
	c, ok := m.next()
	var l []int
	for i := range n {
		l = append(l, int(c>>(7-i)&1))
	}
	return l, ok
}

func (m *model) inBytes() (int, bool) {
	c, ok := m.next()
	n := int(c)
	if m.format.Maxval > 255 && ok {
		c, ok = m.next()
		n = 256*n + int(c)
	}
	switch {
	case !ok:
		return 0, false
	case n > m.format.Maxval:
		return 0, m.wrong(api.ErrSample)
	}
	return n, true
}

// Readers held against what they should tell.

// kindsOf is a letter each.
func kindsOf(l []Event) string {
	s := ""
	for _, v := range l {
		s += string("?brd"[v.Kind])
	}
	return s
}

// stands holds all that a reader tells of itself.
func stands(t *testing.T, what string, r *Reader, e api.Errno, at, count, images int) {
	t.Helper()
	f, n := r.Error()
	if f != e || n != at || r.Told() != count || r.Images() != images {
		t.Errorf("%s: %v, %d, told %d, images %d; not %v, %d, told %d, images %d", what, f, n, r.Told(), r.Images(), e, at, count, images)
	}
}

// feed tells a reader bytes: all events, with the numbers of their bytes.
func feed(r *Reader, s string) []told {
	var l []told
	for i := range len(s) {
		if events := r.Put(s[i]); len(events) > 0 {
			l = append(l, told{i + 1, events})
		}
	}
	return l
}

func sameTold(a, b []told) bool {
	return slices.EqualFunc(a, b, func(x, y told) bool { return x.n == y.n && allAlike(x.l, y.l) })
}

// tellsNothingMore holds a reader that is wrong, or was told its end.
func tellsNothingMore(t *testing.T, what string, r *Reader) {
	t.Helper()
	e, at := r.Error()
	count, images := r.Told(), r.Images()
	for _, c := range []byte(" P4 1 1 \x80P1 1 1 1 2 3#\n") {
		if l := r.Put(c); len(l) != 0 {
			t.Errorf("%s: tells %v behind its end", what, l)
		}
	}
	for range 2 {
		if l := r.End(); len(l) != 0 {
			t.Errorf("%s: tells %v with a further end", what, l)
		}
	}
	stands(t, what+", behind its end", r, e, at, count, images)
}

// reads holds a reader of a stream, byte by byte, and the end of it.
func reads(t *testing.T, s string, l api.Limits) *model {
	t.Helper()
	m := modelOf(s, l)
	e, at := m.at()
	within := e == api.OK || e == api.ErrShort // no byte is wrong
	r := New(l)
	for i := range len(s) {
		n := i + 1
		what := strconv.Quote(s[:n])
		if got := r.Put(s[i]); !allAlike(got, m.with(n)) {
			t.Errorf("%s tells %v, not %v", what, got, m.with(n))
		}
		if within || n < at {
			stands(t, what, r, api.OK, 0, n, m.images(n, false))
		} else {
			stands(t, what, r, e, at, at, m.images(n, false))
		}
	}
	what := strconv.Quote(s) + " and its end"
	if got := r.End(); !allAlike(got, m.ends) {
		t.Errorf("%s tells %v, not %v", what, got, m.ends)
	}
	count := len(s)
	if e != api.OK {
		count = at
	}
	stands(t, what, r, e, at, count, m.images(len(s), true))
	tellsNothingMore(t, what, r)
	return m
}

// readsAll holds it of each beginning of a stream, too, and All.
func readsAll(t *testing.T, s string, l api.Limits) {
	t.Helper()
	for n := range len(s) + 1 {
		m := reads(t, s[:n], l)
		e, at := m.at()
		isAll(t, s[:n], l, m.whole(), e, at)
	}
}

// whole is the images that were done.
func (m *model) whole() []image.Image {
	var events []Event
	for _, x := range m.puts {
		events = append(events, x.l...)
	}
	var l []image.Image
	var rows []api.Pixel
	var now Event
	for _, v := range append(events, m.ends...) {
		switch v.Kind {
		case Begin:
			now, rows = v, nil
		case Row:
			rows = append(rows, v.Row...)
		case Done:
			l = append(l, image.Image{Format: now.Format, M: rect.Matrix{W: now.W, H: now.H, L: rows}})
		}
	}
	return l
}

// isAll holds what All answers.
func isAll(t *testing.T, s string, l api.Limits, want []image.Image, e api.Errno, at int) {
	t.Helper()
	got, f, n := All([]byte(s), l)
	if slices.EqualFunc(got, want, image.Same) && f == e && n == at {
		return
	}
	if len(s) > 999 { // too long to be looked at
		t.Errorf("All of %d bytes: %d images, %v, %d, not %d, %v, %d", len(s), len(got), f, n, len(want), e, at)
		return
	}
	t.Errorf("All(%q) = %v, %v, %d, not %v, %v, %d", s, got, f, n, want, e, at)
}

// text is an image's bytes.
func text(t *testing.T, m image.Image, kind int) string {
	t.Helper()
	b, e := image.Write(m, kind)
	if e != api.OK {
		t.Fatalf("Write(%v, %d): %v", m, kind, e)
	}
	return string(b)
}

// one is a stream of one image, and what it is.
type one struct {
	s string
	m image.Image
}

// ones are images of all kinds.
func ones() []one {
	return []one{
		{"P1 2 2 1 001", grays(1, 2, 1, 0, 0, 1)},
		{"P1#a\n3#b\r1\n1\t0\v1", grays(1, 3, 1, 0, 1)},
		{"P2 2 2 9 1 2\n3 9\n", grays(9, 2, 1, 2, 3, 9)},
		{"P2 1 2 65535 65535\r007 ", grays(deepest, 1, deepest, 7)},
		{"P3 1 2 300 1 2 300\n4 5 6\f", colors(300, 1, 1, 2, 300, 4, 5, 6)},
		{"P4 2 2 \x80\x7f", grays(1, 2, 1, 0, 0, 1)},
		{"P4 9 2\n\x0a\x80\x20\x7f", grays(1, 9, 0, 0, 0, 0, 1, 0, 1, 0, 1, 0, 0, 1, 0, 0, 0, 0, 0, 0)},
		{"P5 2 2 255\tP5 \x00", grays(255, 2, 80, 53, 32, 0)},
		{"P5 1 2 300#h\n\x01\x2c\x00\x0a", grays(300, 1, 300, 10)},
		{"P6 1 2 80 P1 \nP#", colors(80, 1, 80, 49, 32, 10, 80, 35)},
		{"P6 1 1 256\v\x01\x00\x00\x20\x00P", colors(256, 1, 256, 32, 80)},
	}
}

// P11.1: events byte by byte

func TestEventsAsTheyStand(t *testing.T) {
	if Begin != 1 || Row != 2 || Done != 3 {
		t.Error(Begin, Row, Done)
	}
	for _, x := range []struct {
		s    string
		puts []told
		ends []Event
		e    api.Errno
	}{
		{s: ""},
		{s: " \t\n\v\f\r "},
		{s: "P4 1 1 \x80", puts: []told{{7, []Event{begin(1, 1, 1, 1)}}, {8, []Event{row(gray(1)), done()}}}},
		{s: "P4 1 2 \x80\x00", puts: []told{{7, []Event{begin(1, 1, 1, 2)}}, {8, []Event{row(gray(1))}}, {9, []Event{row(gray(0)), done()}}}},
		{s: "P4 9 1 \x80\x80", puts: []told{{7, []Event{begin(1, 1, 9, 1)}}, {9, []Event{row(gray(1, 0, 0, 0, 0, 0, 0, 0, 1)), done()}}}},
		{s: "P5 2 2 9 \x01\x02\x03\x09", puts: []told{{9, []Event{begin(1, 9, 2, 2)}}, {11, []Event{row(gray(1, 2))}}, {13, []Event{row(gray(3, 9)), done()}}}},
		{s: "P5 1 1 256 \x01\x00", puts: []told{{11, []Event{begin(1, 256, 1, 1)}}, {13, []Event{row(gray(256)), done()}}}},
		{s: "P6 1 2 9 \x01\x02\x03\x04\x05\x06", puts: []told{{9, []Event{begin(3, 9, 1, 2)}}, {12, []Event{row(color(1, 2, 3))}}, {15, []Event{row(color(4, 5, 6)), done()}}}},
		{s: "P1 2 2 1 001", puts: []told{{7, []Event{begin(1, 1, 2, 2)}}, {10, []Event{row(gray(1, 0))}}, {12, []Event{row(gray(0, 1)), done()}}}},
		{s: "P2 1 2 9 7 8 ", puts: []told{{9, []Event{begin(1, 9, 1, 2)}}, {11, []Event{row(gray(7))}}, {13, []Event{row(gray(8)), done()}}}},
		{s: "P2 1 2 9 7 8", puts: []told{{9, []Event{begin(1, 9, 1, 2)}}, {11, []Event{row(gray(7))}}}, ends: []Event{row(gray(8)), done()}},
		{s: "P2 1 2 9 7", puts: []told{{9, []Event{begin(1, 9, 1, 2)}}}, ends: []Event{row(gray(7))}, e: api.ErrShort},
		{s: "P2 1 2 9 7 ", puts: []told{{9, []Event{begin(1, 9, 1, 2)}}, {11, []Event{row(gray(7))}}}, e: api.ErrShort},
		{s: "P2 2 2 9 7", puts: []told{{9, []Event{begin(1, 9, 2, 2)}}}, e: api.ErrShort},
		{s: "P3 1 2 9 1 2 3\n4 5 6", puts: []told{{9, []Event{begin(3, 9, 1, 2)}}, {15, []Event{row(color(1, 2, 3))}}}, ends: []Event{row(color(4, 5, 6)), done()}},
		{s: "P3 1 2 9 1 2 3\n4 5", puts: []told{{9, []Event{begin(3, 9, 1, 2)}}, {15, []Event{row(color(1, 2, 3))}}}, e: api.ErrShort},
		{s: "P3 1 2 9 1 2 3", puts: []told{{9, []Event{begin(3, 9, 1, 2)}}}, ends: []Event{row(color(1, 2, 3))}, e: api.ErrShort},
		{s: "P5 1 1 9#h h\n\x07", puts: []told{{13, []Event{begin(1, 9, 1, 1)}}, {14, []Event{row(gray(7)), done()}}}},
		{s: "P5 1 1 9#", e: api.ErrShort},
		{s: "P1 1 1 1P4 1 1 \x00", puts: []told{{7, []Event{begin(1, 1, 1, 1)}}, {8, []Event{row(gray(1)), done()}}, {15, []Event{begin(1, 1, 1, 1)}}, {16, []Event{row(gray(0)), done()}}}},
		{s: " P2 1 1 9 7 P2 1 1 9 8", puts: []told{{10, []Event{begin(1, 9, 1, 1)}}, {12, []Event{row(gray(7)), done()}}, {21, []Event{begin(1, 9, 1, 1)}}}, ends: []Event{row(gray(8)), done()}},
	} {
		r := New(head.All())
		if got := feed(r, x.s); !sameTold(got, x.puts) {
			t.Errorf("%q tells %v, not %v", x.s, got, x.puts)
		}
		if got := r.End(); !allAlike(got, x.ends) {
			t.Errorf("the end of %q tells %v, not %v", x.s, got, x.ends)
		}
		m := reads(t, x.s, head.All())
		if !sameTold(m.puts, x.puts) || !allAlike(m.ends, x.ends) || m.e != x.e {
			t.Errorf("%q: the model tells %v, %v, %v", x.s, m.puts, m.ends, m.e)
		}
		if x.e != api.OK {
			stands(t, x.s, r, x.e, len(x.s), len(x.s), m.images(len(x.s), true))
		} else {
			stands(t, x.s, r, api.OK, 0, len(x.s), m.images(len(x.s), true))
		}
	}
}

func TestReaderThatWasToldNothing(t *testing.T) {
	stands(t, "a new reader", New(head.All()), api.OK, 0, 0, 0)
	stands(t, "a new reader without limits", New(api.Limits{}), api.OK, 0, 0, 0)
	r := New(head.All())
	if l := r.End(); len(l) != 0 {
		t.Error(l)
	}
	stands(t, "a reader that was told its end alone", r, api.OK, 0, 0, 0)
	tellsNothingMore(t, "a reader that was told its end alone", r)
}

func TestOneImageOfEachKind(t *testing.T) {
	for _, x := range ones() {
		readsAll(t, x.s, head.All())
		isAll(t, x.s, head.All(), []image.Image{x.m}, api.OK, 0)
		if !image.May(x.m) {
			t.Errorf("%v may not be", x.m)
		}
	}
}

// The row is told with its last byte, and neither ahead of it nor behind it, whatever stands behind.
func TestRowsComeWithTheirLastBytes(t *testing.T) {
	for _, w := range []int{1, 2, 7, 8, 9, 16, 17} {
		for _, kind := range []int{4, 5, 6} {
			for _, maxval := range []int{1, 255, 256} {
				if kind == 4 && maxval != 1 {
					continue
				}
				stride := map[int]int{4: (w + 7) / 8, 5: w, 6: 3 * w}[kind]
				if maxval > 255 {
					stride *= 2
				}
				h := "P" + strconv.Itoa(kind) + " " + strconv.Itoa(w) + " 3 "
				if kind != 4 {
					h += strconv.Itoa(maxval) + " "
				}
				l := feed(New(head.All()), h+strings.Repeat("\x00", 3*stride))
				s := ""
				for _, x := range l {
					s += " " + strconv.Itoa(x.n-len(h)) + kindsOf(x.l)
				}
				want := " 0b " + strconv.Itoa(stride) + "r " + strconv.Itoa(2*stride) + "r " + strconv.Itoa(3*stride) + "rd"
				if s != want {
					t.Errorf("%q: %s, not %s", h, s, want)
				}
			}
		}
	}
}

// Each byte that may end a head's last number is the one with which Begin is told.
func TestBeginComesWithTheHeadsLastByte(t *testing.T) {
	for kind := 1; kind <= 6; kind++ {
		for _, tail := range []string{"\t", "\n", "\v", "\f", "\r", " ", "#\n", "#\r", "#P4 1 1 \n", "## \t\r"} {
			s := "P" + strconv.Itoa(kind) + " 7 5"
			maxval := 1
			if kind != 1 && kind != 4 {
				s += "\n300"
				maxval = 300
			}
			want := begin(1, maxval, 7, 5)
			if kind == 3 || kind == 6 {
				want.Format.Channels = 3
			}
			s += tail
			r := New(head.All())
			if l := feed(r, s[:len(s)-1]); len(l) != 0 {
				t.Errorf("%q: %v is told ahead of its time", s, l)
			}
			if l := r.Put(s[len(s)-1]); !allAlike(l, []Event{want}) {
				t.Errorf("%q tells %v, not %v", s, l, want)
			}
			stands(t, s, r, api.OK, 0, len(s), 0)
			readsAll(t, s, head.All())
		}
	}
}

func TestBlanksAheadAndBehind(t *testing.T) {
	many := strings.Repeat(blanks, 20)
	for _, gap := range []string{"", "\t", "\n", "\v", "\f", "\r", " ", blanks, many} {
		for _, x := range ones() {
			for _, y := range ones() {
				s := gap + x.s + gap + y.s + gap
				reads(t, s, head.All())
				isAll(t, s, head.All(), []image.Image{x.m, y.m}, api.OK, 0)
			}
			isAll(t, gap, head.All(), nil, api.OK, 0)
			isAll(t, gap+x.s, head.All(), []image.Image{x.m}, api.OK, 0)
			isAll(t, x.s+gap, head.All(), []image.Image{x.m}, api.OK, 0)
		}
	}
}

func TestStreamsOfSeveralImages(t *testing.T) {
	var all string
	var want []image.Image
	for _, x := range ones() {
		all += x.s
		want = append(want, x.m)
	}
	for _, x := range ones() {
		all += "\n" + x.s + " \v"
		want = append(want, x.m)
	}
	readsAll(t, all, head.All())
	isAll(t, all, head.All(), want, api.OK, 0)
	for _, x := range ones() {
		s := strings.Repeat(x.s, 3)
		readsAll(t, s, head.All())
		isAll(t, s, head.All(), []image.Image{x.m, x.m, x.m}, api.OK, 0)
	}
}

// Whatever stands where a head must begin, but blanks and P, is wrong.
func TestBytesThatBeginNoHead(t *testing.T) {
	for _, ahead := range []string{"", " ", "\n\n", "P4 1 1 \x80", "P1 1 1 1", "P2 1 1 9 7 ", "P2 1 1 9 7\n\r", "P5 1 1 9 \x07\v", "P6 1 1 9 \x01\x02\x03"} {
		for c := range 256 {
			s := ahead + string([]byte{byte(c)})
			m := reads(t, s, head.All())
			e, at := m.at()
			switch {
			case strings.IndexByte(blanks, byte(c)) >= 0:
				if e != api.OK {
					t.Errorf("%q: %v", s, e)
				}
			case c == 'P':
				if e != api.ErrShort || at != len(s) {
					t.Errorf("%q: %v, %d", s, e, at)
				}
			default:
				if e != api.ErrMagic || at != len(s) {
					t.Errorf("%q: %v, %d", s, e, at)
				}
			}
			isAll(t, s, head.All(), m.whole(), e, at)
		}
	}
	isAll(t, "#h\nP4 1 1 \x80", head.All(), nil, api.ErrMagic, 1)
	isAll(t, "P4 1 1 \x80#h\n", head.All(), []image.Image{grays(1, 1, 1)}, api.ErrMagic, 9)
}

// P11.1: errors

// wrongs are streams that are wrong with their last bytes, and why.
func wrongs() map[string]api.Errno {
	return map[string]api.Errno{
		"0": api.ErrMagic, "p": api.ErrMagic, "#": api.ErrMagic, "\x00": api.ErrMagic, " \n\xff": api.ErrMagic,
		"P0": api.ErrMagic, "P7": api.ErrMagic, "P ": api.ErrMagic, "PP": api.ErrMagic, "P#": api.ErrMagic, "\tP\n": api.ErrMagic,
		"P5x": api.ErrNumber, "P51": api.ErrNumber, "P5P": api.ErrNumber, "P5\x00": api.ErrNumber,
		"P5 x": api.ErrNumber, "P5 -": api.ErrNumber, "P5 1x": api.ErrNumber, "P5 1 1 P": api.ErrNumber, "P5#h\n1#w\n,": api.ErrNumber, "P5 1 1 9x": api.ErrNumber,
		"P5 0 ": api.ErrRange, "P5 1 00\n": api.ErrRange, "P5 1 1 0\t": api.ErrRange, "P1 1 0 ": api.ErrRange, "P5 0#h\n": api.ErrRange,
		"P5 4097": api.ErrRange, "P5 1 65537": api.ErrRange, "P5 1 1 65536": api.ErrRange, "P4 9999": api.ErrRange, "P3 1 1 100000": api.ErrRange,
		"P1 1 1 2": api.ErrNumber, "P1 1 1 #": api.ErrNumber, "P1 2 1 1P": api.ErrNumber, "P1 1 1 \x00": api.ErrNumber, "P1 1 2 1x": api.ErrNumber,
		"P2 1 1 9 x": api.ErrNumber, "P2 1 1 9 7#": api.ErrNumber, "P2 1 1 9 #": api.ErrNumber, "P2 1 1 9 7P": api.ErrNumber, "P2 1 1 9 -": api.ErrNumber, "P2 1 2 9 7 x": api.ErrNumber,
		"P2 1 1 9 10": api.ErrSample, "P2 2 1 9 9 12": api.ErrSample, "P2 1 2 300 300 301": api.ErrSample, "P3 1 1 1 0 1 2": api.ErrSample, "P2 1 1 65535 65536": api.ErrSample,
		"P5 1 1 9 \x0a": api.ErrSample, "P5 1 2 9 \x09\x0a": api.ErrSample, "P5 1 1 300 \x01\x2d": api.ErrSample, "P6 1 1 9 \x01\x02\xff": api.ErrSample, "P6 1 1 256 \x00\x00\x01\x01": api.ErrSample,
	}
}

func TestWrongStreams(t *testing.T) {
	for s, e := range wrongs() {
		m := reads(t, s, head.All())
		if f, at := m.at(); f != e || at != len(s) {
			t.Errorf("%q: the model tells %v, %d", s, f, at)
		}
		isAll(t, s, head.All(), m.whole(), e, len(s))
		reads(t, s+"P4 1 1 \x80", head.All())
		isAll(t, s+"P4 1 1 \x80 P1 1 1 1", head.All(), m.whole(), e, len(s))
	}
}

func TestWrongBehindSomeImages(t *testing.T) {
	for _, x := range ones() {
		for s, e := range wrongs() {
			ahead := x.s + "\n" + x.s + " "
			m := reads(t, ahead+s+x.s, head.All())
			if f, at := m.at(); f != e || at != len(ahead+s) || m.images(len(ahead), false) != 2 {
				t.Errorf("%q: the model tells %v, %d", ahead+s, f, at)
			}
			isAll(t, ahead+s+x.s, head.All(), []image.Image{x.m, x.m}, e, len(ahead+s))
		}
	}
}

// A row that is whole ahead of the byte that is wrong is told.
func TestRowsAheadOfTheWrongByte(t *testing.T) {
	for _, x := range []struct {
		s, kinds string
		e        api.Errno
	}{
		{"P5 1 3 9 \x01\x02\x0a", "brr", api.ErrSample}, {"P5 2 2 9 \x01\x02\x03\x0a", "br", api.ErrSample}, {"P5 2 2 9 \x01\x0a", "b", api.ErrSample},
		{"P2 1 3 9 1 2 x", "brr", api.ErrNumber}, {"P2 2 2 9 1 2 3 10", "br", api.ErrSample}, {"P2 1 2 9 1 2x", "br", api.ErrNumber},
		{"P1 2 2 102", "br", api.ErrNumber}, {"P3 1 2 9 1 2 3 1 2 10", "br", api.ErrSample}, {"P6 1 2 9 \x01\x02\x03\x01\x02\x0a", "br", api.ErrSample},
	} {
		r := New(head.All())
		s := ""
		for _, y := range feed(r, x.s) {
			s += kindsOf(y.l)
		}
		if s != x.kinds {
			t.Errorf("%q tells %s, not %s", x.s, s, x.kinds)
		}
		stands(t, x.s, r, x.e, len(x.s), len(x.s), 0)
		tellsNothingMore(t, x.s, r)
		isAll(t, x.s, head.All(), nil, x.e, len(x.s))
	}
}

// Each byte of a stream is made another one.
func TestStreamsWithOneOtherByte(t *testing.T) {
	var s string
	for _, x := range ones() {
		s += x.s + "\n"
	}
	for i := range len(s) {
		for _, c := range "\x00\n #019P\xff" {
			b := []byte(s)
			b[i] = byte(c)
			m := reads(t, string(b), head.All())
			e, at := m.at()
			isAll(t, string(b), head.All(), m.whole(), e, at)
		}
	}
}

func TestTheEndOfTheBytes(t *testing.T) {
	for _, x := range []struct {
		s      string
		ends   string
		e      api.Errno
		images int
	}{
		{"", "", api.OK, 0}, {" ", "", api.OK, 0}, {"P4 1 1 \x80", "", api.OK, 1}, {"P4 1 1 \x80 \n", "", api.OK, 1},
		{"P1 1 1 1", "", api.OK, 1}, {"P2 1 1 9 7 ", "", api.OK, 1}, {"P2 1 1 9 7 \n", "", api.OK, 1},
		{"P2 1 1 9 7", "rd", api.OK, 1}, {"P3 1 1 9 7 8 9", "rd", api.OK, 1}, {"P4 1 1 \x80P2 1 1 9 7", "rd", api.OK, 2}, {"P2 1 1 9 007", "rd", api.OK, 1}, {"P2 1 1 9 0", "rd", api.OK, 1},
		{"P", "", api.ErrShort, 0}, {" P", "", api.ErrShort, 0}, {"P5", "", api.ErrShort, 0}, {"P5 ", "", api.ErrShort, 0}, {"P5#h", "", api.ErrShort, 0},
		{"P5 0", "", api.ErrShort, 0}, {"P5 1 1", "", api.ErrShort, 0}, {"P5 1 1 9", "", api.ErrShort, 0}, {"P5 1 1 9#h", "", api.ErrShort, 0}, {"P4 1 1", "", api.ErrShort, 0}, {"P4 1 1 \x80P", "", api.ErrShort, 1},
		{"P5 1 1 9 ", "", api.ErrShort, 0}, {"P5 2 1 9 \x01", "", api.ErrShort, 0}, {"P5 1 2 9 \x01", "", api.ErrShort, 0}, {"P5 1 1 300 \x01", "", api.ErrShort, 0}, {"P4 9 1 \x80", "", api.ErrShort, 0}, {"P6 1 1 9 \x01\x02", "", api.ErrShort, 0},
		{"P1 1 1 ", "", api.ErrShort, 0}, {"P1 2 1 1", "", api.ErrShort, 0}, {"P1 1 2 1", "", api.ErrShort, 0}, {"P1 1 2 1 ", "", api.ErrShort, 0},
		{"P2 1 1 9 ", "", api.ErrShort, 0}, {"P2 1 1 9  \n", "", api.ErrShort, 0}, {"P2 2 1 9 7", "", api.ErrShort, 0}, {"P2 2 1 9 7 ", "", api.ErrShort, 0}, {"P2 1 2 9 7", "r", api.ErrShort, 0}, {"P2 1 2 9 7 ", "", api.ErrShort, 0},
		{"P3 1 1 9 7 8", "", api.ErrShort, 0}, {"P3 1 2 9 7 8 9", "r", api.ErrShort, 0}, {"P4 1 1 \x80P2 1 2 9 7", "r", api.ErrShort, 1}, {"P2 2 2 9 1 2 3 4", "rd", api.OK, 1}, {"P2 2 3 9 1 2 3 4", "r", api.ErrShort, 0},
	} {
		r := New(head.All())
		feed(r, x.s)
		if l := r.End(); kindsOf(l) != x.ends {
			t.Errorf("the end of %q tells %v, not %s", x.s, l, x.ends)
		}
		at := 0
		if x.e != api.OK {
			at = len(x.s)
		}
		stands(t, x.s, r, x.e, at, len(x.s), x.images)
		tellsNothingMore(t, x.s, r)
		reads(t, x.s, head.All())
	}
}

// P11.1: limits

func TestLimits(t *testing.T) {
	l := api.Limits{Width: 12, Height: 30, Maxval: 200}
	for _, x := range []struct {
		s string
		e api.Errno
	}{
		{"P5 12 30 200 ", api.ErrShort}, {"P5 13", api.ErrRange}, {"P5 12 31", api.ErrRange}, {"P5 12 30 201", api.ErrRange},
		{"P1 12 30 ", api.ErrShort}, {"P1 13", api.ErrRange}, {"P4 12 31", api.ErrRange}, {"P2 1 1 200 200 ", api.OK}, {"P2 1 1 200 201", api.ErrSample},
		{"P3 1 1 201", api.ErrRange}, {"P6 12 1 200 " + strings.Repeat("\xc8", 36), api.OK}, {"P6 12 1 200 " + strings.Repeat("\xc9", 36), api.ErrSample},
		{"P4 1 1 \x80P5 12 1 200 abcdefghijklP4 13", api.ErrRange}, {"P4 1 1 \x80P5 12 1 200 abcdefghijklP4 12 31", api.ErrRange}, {"P4 1 1 \x80P5 1 1 201", api.ErrRange},
	} {
		readsAll(t, x.s, l)
		if _, e, _ := All([]byte(x.s), l); e != x.e {
			t.Errorf("All(%q) = %v, not %v", x.s, e, x.e)
		}
	}
}

// Limits beyond what may be are the nearest ones that may.
func TestLimitsAreMadeOnesThatMayBe(t *testing.T) {
	for _, n := range []int{math.MinInt, -1, 0, 1, 2, 255, widest, widest + 1, highest, highest + 1, deepest, math.MaxInt} {
		for _, l := range []api.Limits{{Width: n, Height: 9, Maxval: 9}, {Width: 9, Height: n, Maxval: 9}, {Width: 9, Height: 9, Maxval: n}, {Width: n, Height: n, Maxval: n}} {
			for _, s := range []string{"P5 1 1 1 \x01", "P5 2 1 1 \x01\x01", "P5 1 2 1 \x01\x01", "P5 1 1 2 \x02", "P4 1 1 \x80", "P5 4096 ", "P5 4097 ", "P5 1 65536 ", "P5 1 65537 ", "P5 1 1 65535 ", "P5 1 1 65536 ", "P2 1 1 255 255 P2 1 1 256 256"} {
				reads(t, s, l)
			}
		}
	}
}

func TestTheGreatestImages(t *testing.T) {
	wide, high, deep := grays(255, widest, mixed(2*widest, 255, 1)...), grays(1, 1, mixed(highest, 1, 2)...), colors(deepest, 1, mixed(300, deepest, 3)...)
	b, e := Join([]image.Image{wide, high, deep, wide, high, deep}, []int{5, 4, 6, 2, 1, 3})
	if e != api.OK {
		t.Fatal(e)
	}
	isAll(t, string(b), head.All(), []image.Image{wide, high, deep, wide, high, deep}, api.OK, 0)
	isAll(t, string(b), api.Limits{Width: widest - 1, Height: highest, Maxval: deepest}, nil, api.ErrRange, 7)
	isAll(t, string(b[len(text(t, wide, 5)):]), api.Limits{Width: widest, Height: highest - 1, Maxval: deepest}, nil, api.ErrRange, 10)
	isAll(t, "P4 1 1 \x80"+text(t, deep, 6), api.Limits{Width: widest, Height: highest, Maxval: deepest - 1}, []image.Image{grays(1, 1, 1)}, api.ErrRange, 8+3+6+5)
}

// An image of more pixels than a matrix may have is told row by row, as any other one.
func TestMorePixelsThanAMatrixMayHave(t *testing.T) {
	const h = 1<<24/widest + 1
	b := append([]byte("P4 4096 "+strconv.Itoa(h)+" "), make([]byte, h*widest/8)...)
	b = append(b, "P1 1 1 1"...)
	r := New(head.All())
	rows, others := 0, ""
	for _, c := range b {
		for _, v := range r.Put(c) {
			if v.Kind == Row && len(v.Row) == widest {
				rows++
			} else {
				others += kindsOf([]Event{v})
			}
		}
	}
	if rows != h || others != "bdbrd" || r.Images() != 2 {
		t.Error(rows, others, r.Images())
	}
}

// P11.2: All

func TestAllOfNothing(t *testing.T) {
	for _, b := range [][]byte{nil, {}, []byte(blanks)} {
		if l, e, at := All(b, head.All()); len(l) != 0 || e != api.OK || at != 0 {
			t.Error(l, e, at)
		}
	}
}

// The images that were done stand beside the error.
func TestAllOfWrongStreams(t *testing.T) {
	a, b, c := grays(1, 1, 1), grays(9, 1, 7, 8), colors(9, 1, 1, 2, 3)
	ahead := "P4 1 1 \x80 P2 1 2 9 7 8 \nP6 1 1 9 \x01\x02\x03"
	for _, x := range []struct {
		s    string
		want []image.Image
		e    api.Errno
		at   int
	}{
		{ahead, []image.Image{a, b, c}, api.OK, 0},
		{ahead + "x", []image.Image{a, b, c}, api.ErrMagic, len(ahead) + 1},
		{ahead + "P", []image.Image{a, b, c}, api.ErrShort, len(ahead) + 1},
		{ahead + "P5 1 2 9 \x01\x0a", []image.Image{a, b, c}, api.ErrSample, len(ahead) + 11},
		{ahead + "P5 1 2 9 \x01", []image.Image{a, b, c}, api.ErrShort, len(ahead) + 10},
		{ahead + "P2 1 2 9 1", []image.Image{a, b, c}, api.ErrShort, len(ahead) + 10},
		{ahead[:len(ahead)-1], []image.Image{a, b}, api.ErrShort, len(ahead) - 1},
		{"P4 1 1 \x80 P2 1 2 9 7 8", []image.Image{a, b}, api.OK, 0},
		{"P4 1 1 \x80 P2 1 2 9 7", []image.Image{a}, api.ErrShort, 19},
		{"P4 1 1 \x80 P2 1 2 9 7 x" + ahead, []image.Image{a}, api.ErrNumber, 21},
		{"P4 1 1 \x80P4 1 1 \x80P9" + ahead, []image.Image{a, a}, api.ErrMagic, 18},
		{"P4 1 1 \x80P4 0 1 \x80" + ahead, []image.Image{a}, api.ErrRange, 13},
	} {
		isAll(t, x.s, head.All(), x.want, x.e, x.at)
		reads(t, x.s, head.All())
	}
}

func TestManyImages(t *testing.T) {
	const n = 3000
	var s string
	var want []image.Image
	for i := range n {
		x := ones()[i%len(ones())]
		s += x.s + blanks[:i%7]
		want = append(want, x.m)
	}
	isAll(t, s, head.All(), want, api.OK, 0)
	isAll(t, s+"P8", head.All(), want, api.ErrMagic, len(s)+2)
	r := New(head.All())
	feed(r, s)
	stands(t, "many images", r, api.OK, 0, len(s), n)
}

// P11.2: Join

func TestJoinAsItStands(t *testing.T) {
	bit, few, deep, rgb := grays(1, 2, 1, 0), grays(9, 1, 3, 4), grays(300, 1, 258), colors(9, 1, 1, 2, 3)
	for _, x := range []struct {
		l     []image.Image
		kinds []int
		want  string
	}{
		{nil, nil, ""},
		{[]image.Image{}, nil, ""},
		{nil, []int{}, ""},
		{[]image.Image{bit}, []int{1}, "P1\n2 1\n10\n\n"},
		{[]image.Image{bit}, []int{2}, "P2\n2 1\n1\n1\n0\n\n"},
		{[]image.Image{bit}, []int{4}, "P4\n2 1\n\x80"},
		{[]image.Image{bit}, []int{5}, "P5\n2 1\n1\n\x01\x00"},
		{[]image.Image{rgb}, []int{3}, "P3\n1 1\n9\n1 2 3\n\n"},
		{[]image.Image{rgb}, []int{6}, "P6\n1 1\n9\n\x01\x02\x03"},
		{[]image.Image{few, deep}, []int{2, 5}, "P2\n1 2\n9\n3\n4\n\nP5\n1 1\n300\n\x01\x02"},
		{[]image.Image{deep, few}, []int{5, 2}, "P5\n1 1\n300\n\x01\x02P2\n1 2\n9\n3\n4\n\n"},
		{[]image.Image{bit, bit, rgb, bit}, []int{4, 1, 6, 4}, "P4\n2 1\n\x80P1\n2 1\n10\n\nP6\n1 1\n9\n\x01\x02\x03P4\n2 1\n\x80"},
	} {
		b, e := Join(x.l, x.kinds)
		if string(b) != x.want || e != api.OK {
			t.Errorf("Join(%v, %v) = %q, %v, not %q", x.l, x.kinds, b, e, x.want)
		}
		isAll(t, string(b), head.All(), x.l, api.OK, 0)
	}
}

func refusesToJoin(t *testing.T, l []image.Image, kinds []int) {
	t.Helper()
	if b, e := Join(l, kinds); len(b) != 0 || e != api.ErrArg {
		t.Errorf("Join(%v, %v) = %q, %v", l, kinds, b, e)
	}
}

func TestJoinOfOtherThanAsManyKinds(t *testing.T) {
	m := grays(1, 2, 1, 0)
	for images := range 5 {
		for kinds := range 7 {
			l, k := slices.Repeat([]image.Image{m}, images), slices.Repeat([]int{4}, kinds)
			if images != kinds {
				refusesToJoin(t, l, k)
			} else if b, e := Join(l, k); string(b) != strings.Repeat("P4\n2 1\n\x80", images) || e != api.OK {
				t.Errorf("Join of %d: %q, %v", images, b, e)
			}
		}
	}
	refusesToJoin(t, nil, []int{4})
	refusesToJoin(t, []image.Image{m}, nil)
	refusesToJoin(t, nil, []int{9})
}

// A kind that may not tell its image is refused wherever it stands.
func TestJoinOfKindsThatMayNotTell(t *testing.T) {
	bit, few, rgb := grays(1, 2, 1, 0), grays(9, 1, 3, 4), colors(1, 1, 1, 0, 1)
	may := map[int]string{1: "b", 2: "bf", 3: "c", 4: "b", 5: "bf", 6: "c"}
	for _, kind := range []int{math.MinInt, -1, 0, 1, 2, 3, 4, 5, 6, 7, 49, 53, 256 + 4, math.MaxInt} {
		for i, m := range []image.Image{bit, few, rgb} {
			good := strings.Contains(may[kind], "bfc"[i:i+1])
			for at := range 3 {
				l, kinds := []image.Image{bit, bit, bit}, []int{4, 1, 5}
				l[at], kinds[at] = m, kind
				b, e := Join(l, kinds)
				if good && (len(b) == 0 || e != api.OK) || !good && (len(b) != 0 || e != api.ErrArg) {
					t.Errorf("Join(%v, %v) = %q, %v", l, kinds, b, e)
				}
			}
		}
	}
}

func TestJoinOfImagesThatMayNotBe(t *testing.T) {
	bit := grays(1, 2, 1, 0)
	for _, m := range []image.Image{
		{}, {Format: bit.Format}, {M: bit.M}, grays(0, 1, 0), grays(deepest+1, 1, 0), grays(9, 1, 10), grays(9, 2, 1, 2, 3, 10),
		{Format: bit.Format, M: rect.Matrix{W: 1, H: 1, L: bit.M.L}}, {Format: bit.Format, M: rect.Matrix{W: 2, H: 2, L: bit.M.L}},
		{Format: bit.Format, M: rect.Matrix{W: math.MaxInt, H: math.MaxInt, L: bit.M.L}}, {Format: api.Format{Channels: 2, Maxval: 1}, M: bit.M},
		{Format: bit.Format, M: rect.Matrix{W: 2, H: 1, L: []api.Pixel{0, 1}}}, grays(1, widest+1, make([]int, widest+1)...), grays(1, 1, make([]int, highest+1)...),
	} {
		for kind := 1; kind <= 6; kind++ {
			for _, l := range [][]image.Image{{m}, {bit, m}, {m, bit}} {
				kinds := []int{4, 4}[:len(l)]
				kinds[slices.IndexFunc(l, func(o image.Image) bool { return image.Same(o, m) })] = kind
				if b, e := Join(l, kinds); len(b) != 0 || e != api.ErrArg {
					t.Errorf("Join of %v, %d by %d, kind %d: %q, %v", m.Format, m.M.W, m.M.H, kind, b, e)
				}
			}
		}
	}
}

// P11.3

// samples are images of many formats and sides.
func samples() []image.Image {
	var l []image.Image
	for i, maxval := range []int{1, 1, 2, 9, 80, 255, 256, 300, deepest} {
		for _, size := range [][2]int{{1, 1}, {2, 1}, {1, 3}, {3, 2}, {8, 1}, {9, 2}, {71, 1}, {140, 2}} {
			n := size[0] * size[1]
			l = append(l, grays(maxval, size[0], mixed(n, maxval, i)...), colors(maxval, size[0], mixed(3*n, maxval, i)...))
		}
	}
	return l
}

func TestWhatIsJoinedIsReadAsItWas(t *testing.T) {
	all := samples()
	for seed := range 8 {
		var l []image.Image
		var kinds []int
		for i, m := range all {
			may := image.Kinds(m.Format)
			l, kinds = append(l, m), append(kinds, may[(seed+i)%len(may)])
			b, e := Join([]image.Image{m, all[seed]}, []int{kinds[i], kinds[seed%len(kinds)]})
			if e == api.OK {
				isAll(t, string(b), head.All(), []image.Image{m, all[seed]}, api.OK, 0)
			}
		}
		b, e := Join(l, kinds)
		if e != api.OK {
			t.Fatal(e)
		}
		isAll(t, string(b), head.All(), l, api.OK, 0)
		isAll(t, blanks+string(b)+blanks, head.All(), l, api.OK, 0)
	}
}

// Each two kinds behind one another, of small images of each of their pixels.
func TestJoinOfEachTwoKinds(t *testing.T) {
	for a := 1; a <= 6; a++ {
		for b := 1; b <= 6; b++ {
			for bits := range 64 {
				l := []image.Image{small(a, bits&7), small(b, bits>>3)}
				s, e := Join(l, []int{a, b})
				if e != api.OK {
					t.Fatal(a, b, e)
				}
				isAll(t, string(s), head.All(), l, api.OK, 0)
				r := New(head.All())
				feed(r, string(s))
				stands(t, string(s), r, api.OK, 0, len(s), 2)
				if end := r.End(); len(end) != 0 {
					t.Errorf("the end of %q tells %v: what is joined is over", s, end)
				}
			}
		}
	}
}

// small is an image that a kind may tell.
func small(kind, bits int) image.Image {
	l := []int{bits & 1, bits >> 1 & 1, bits >> 2}
	if kind%3 == 0 {
		return colors(1, 1, l...)
	}
	return grays(1, 3, l...)
}

// A reader that is asked about between its bytes tells what one tells that is not.
func TestEventsAreTheSameInWhateverPieces(t *testing.T) {
	s := ""
	for _, x := range ones() {
		s += x.s + " "
	}
	for _, whole := range []string{s, s + "P9", s + "P2 1 3 9 7 8", s + "P5 1 2 9 \x01\x0a\x01"} {
		want := feed(New(head.All()), whole)
		m := modelOf(whole, head.All())
		if !sameTold(want, m.puts) {
			t.Errorf("%q: %v", whole, want)
		}
		for size := 1; size <= len(whole); size++ {
			r := New(head.All())
			var got []told
			for from := 0; from < len(whole); from += size {
				for _, x := range feed(r, whole[from:min(from+size, len(whole))]) {
					got = append(got, told{from + x.n, x.l})
				}
				r.Error()
				r.Told()
				r.Images()
			}
			end := r.End()
			if e, at := r.Error(); !sameTold(got, want) || !allAlike(end, m.ends) || e != m.e || e != api.OK && at != m.pos {
				t.Errorf("%q in pieces of %d: %v, %v, %v", whole, size, got, end, e)
			}
		}
	}
}

// Readers side by side know nothing of one another.
func TestReadersSideBySide(t *testing.T) {
	l := ones()
	readers := make([]*Reader, len(l))
	got := make([][]told, len(l))
	for i := range l {
		readers[i] = New(head.All())
	}
	for n := range 40 {
		for i, x := range l {
			if n == len(x.s) {
				readers[i].End()
			}
			if n >= len(x.s) {
				continue
			}
			if events := readers[i].Put(x.s[n]); len(events) > 0 {
				got[i] = append(got[i], told{n + 1, events})
			}
		}
	}
	for i, x := range l {
		if !sameTold(got[i], modelOf(x.s, head.All()).puts) {
			t.Errorf("%q tells %v", x.s, got[i])
		}
		stands(t, x.s, readers[i], api.OK, 0, len(x.s), 1)
	}
}

// R3, R4

// overwrite overwrites all of a list, and the room behind it.
func overwrite[T byte | int | api.Pixel](l []T) {
	l = l[:cap(l)]
	for i := range l {
		l[i] = 99
	}
}

// What the asker does with its events changes none that is told later.
func TestEventsStandForThemselves(t *testing.T) {
	s := ""
	for range 2 {
		for _, x := range ones() {
			s += x.s + " "
		}
	}
	s += "P2 2 2 9 1 2 3 4"
	want := modelOf(s, head.All())
	r := New(head.All())
	for i := range len(s) {
		l := r.Put(s[i])
		if !allAlike(l, want.with(i+1)) {
			t.Errorf("%q tells %v, not %v", s[:i+1], l, want.with(i+1))
		}
		spoil(l)
	}
	if l := r.End(); !allAlike(l, want.ends) {
		t.Errorf("the end tells %v, not %v", l, want.ends)
	}
}

// spoil overwrites events, their rows, and the room behind both.
func spoil(l []Event) {
	l = l[:cap(l)]
	for i := range l {
		overwrite(l[i].Row)
		l[i] = Event{Kind: 9, Format: api.Format{Channels: 9, Maxval: 9}, W: 9, H: 9, Row: gray(9)}
	}
}

// What was told stays as it was, whatever is told behind it.
func TestEventsStayAsTheyWere(t *testing.T) {
	for _, x := range ones() {
		s := x.s + " " + x.s + " "
		r := New(head.All())
		got := feed(r, s)
		r.End()
		if !sameTold(got, modelOf(s, head.All()).puts) {
			t.Errorf("%q: became %v", s, got)
		}
		for i, a := range got { // no two rows share any room
			for _, v := range a.l {
				overwrite(v.Row)
			}
			for _, b := range got[i+1:] {
				if !allAlike(b.l, modelOf(s, head.All()).with(b.n)) {
					t.Errorf("%q: rows share memory", s)
				}
			}
		}
	}
}

func TestAllKeepsNothing(t *testing.T) {
	var s string
	var want []image.Image
	for _, x := range ones() {
		s += x.s + "\n"
		want = append(want, x.m)
	}
	for _, tail := range []string{"", "x", "P2 1 2 9 7", "P2 1 1 9 7"} {
		room := []byte(s + tail + " behind")
		was := bytes.Clone(room)
		got, _, _ := All(room[:len(s+tail)], head.All())
		other, _, _ := All(room[:len(s+tail)], head.All())
		if !bytes.Equal(room, was) {
			t.Errorf("%q became %q", was, room)
		}
		overwrite(room)
		wanted := modelOf(s+tail, head.All()).whole()
		if !slices.EqualFunc(got[:len(want)], want, image.Same) || !slices.EqualFunc(got, wanted, image.Same) {
			t.Errorf("%v became %v, as what was read did", want, got)
		}
		for i := range got {
			overwrite(got[i].M.L)
			if !slices.EqualFunc(got[i+1:], wanted[i+1:], image.Same) {
				t.Errorf("the image %d shares with another one", i)
			}
		}
		if !slices.EqualFunc(other, wanted, image.Same) {
			t.Error("an answer shares with another one")
		}
	}
}

func TestJoinKeepsNothing(t *testing.T) {
	var l, was []image.Image
	var kinds []int
	for i, m := range samples() {
		may := image.Kinds(m.Format)
		room := append(slices.Clone(m.M.L), 7, 8, 9)
		m.M.L = room[:len(m.M.L)]
		l, kinds = append(l, m), append(kinds, may[i%len(may)])
		m.M.L = slices.Clone(room)
		was = append(was, m)
	}
	n := len(l)
	rooms, roomKinds := append(l, grays(9, 1, 9)), append(kinds, 9)
	askedKinds := slices.Clone(roomKinds)
	b, _ := Join(rooms[:n], roomKinds[:n])
	other, _ := Join(rooms[:n], roomKinds[:n])
	if !slices.Equal(roomKinds, askedKinds) || !image.Same(rooms[n], grays(9, 1, 9)) {
		t.Error("the lists became others")
	}
	for i, m := range l {
		if room := m.M.L[:len(was[i].M.L)]; !slices.Equal(room, was[i].M.L) || m.Format != was[i].Format || m.M.W != was[i].M.W || m.M.H != was[i].M.H {
			t.Errorf("%v became %v", was[i], m)
		}
	}
	keep := bytes.Clone(b)
	overwrite(b)
	if !bytes.Equal(other, keep) {
		t.Error("an answer shares with another one")
	}
	for i := range l {
		overwrite(l[i].M.L)
	}
	overwrite(roomKinds)
	if !bytes.Equal(other, keep) {
		t.Error("an answer shares with what was handed in")
	}
}
