package plain

import (
	"math"
	"math/big"
	"regexp"
	"slices"
	"strconv"
	"strings"
	"testing"

	"chequer/api"
	"chequer/head"
	"chequer/token"
)

// The greatest of each field.
const (
	widest  = 4096
	highest = 65536
	deepest = 65535
)

var blanks = []string{"\t", "\n", "\v", "\f", "\r", " "}

func isBlank(c byte) bool { return slices.Contains(blanks, string([]byte{c})) }

func isDigit(c byte) bool { return c >= 48 && c <= 57 }

// headOf is a head of a kind; of the kind 1 the greatest sample is 1.
func headOf(kind, w, h, maxval int) head.Head {
	if kind == 1 {
		maxval = 1
	}
	return head.Head{Kind: kind, W: w, H: h, Maxval: maxval}
}

// samplesOf is how many samples a pixel of a kind has.
func samplesOf(kind int) int {
	if kind == 3 {
		return 3
	}
	return 1
}

func gray(l ...int) []api.Pixel {
	var out []api.Pixel
	for _, n := range l {
		out = append(out, 1<<48+api.Pixel(n))
	}
	return out
}

func color(l ...int) []api.Pixel {
	var out []api.Pixel
	for a := range slices.Chunk(l, 3) {
		out = append(out, 3<<48+api.Pixel(a[0])<<32+api.Pixel(a[1])<<16+api.Pixel(a[2]))
	}
	return out
}

// pixels are a kind's, of these samples.
func pixels(kind int, l ...int) []api.Pixel {
	if kind == 3 {
		return color(l[:len(l)/3*3]...)
	}
	return gray(l...)
}

// mixed are samples from 0 up to most, these two among them.
func mixed(n, most, seed int) []int {
	l := make([]int, n)
	for i := range l {
		l[i] = (seed*7919 + i*i*31 + i*104729) % (most + 1)
	}
	if n > 1 {
		l[seed%n], l[(seed+1)%n] = 0, most
	}
	return l
}

// state is all that a reader told.
type state struct {
	rows   [][]api.Pixel
	status token.Status
	e      api.Errno
}

func (s state) is(o state) bool {
	same := func(a, b []api.Pixel) bool { return slices.Equal(a, b) }
	return s.status == o.status && s.e == o.e && slices.EqualFunc(s.rows, o.rows, same)
}

func goesOn(rows ...[]api.Pixel) state { return state{rows, token.More, api.OK} }

func over(rows ...[]api.Pixel) state { return state{rows, token.Over, api.OK} }

func wrong(e api.Errno, rows ...[]api.Pixel) state { return state{rows, token.Wrong, e} }

func reader(t *testing.T, h head.Head) *Reader {
	t.Helper()
	r, e := New(h)
	if r == nil || e != api.OK {
		t.Fatalf("New(%v) = %v, %v", h, r, e)
	}
	return r
}

// asks adds what was told last to what was told ahead, and holds Rows and Error against it, twice: to ask changes nothing.
func asks(t *testing.T, r *Reader, was state, row []api.Pixel, status token.Status) state {
	t.Helper()
	now := state{was.rows, status, r.Error()}
	if len(row) != 0 {
		now.rows = append(slices.Clone(was.rows), row)
	}
	for range 2 {
		if n, e := r.Rows(), r.Error(); n != len(now.rows) || e != now.e || (e != api.OK) != (status == token.Wrong) {
			t.Errorf("Rows() = %d, Error() = %v, of %v", n, e, now)
		}
	}
	return now
}

// told is a reader that was told a text, and all that it told.
func told(t *testing.T, s string, h head.Head) (*Reader, state) {
	t.Helper()
	r := reader(t, h)
	now := asks(t, r, state{}, nil, token.More)
	for i := range len(s) {
		row, status := r.Put(s[i])
		now = asks(t, r, now, row, status)
	}
	return r, now
}

// is holds what a reader that was told a text told against what it should.
func is(t *testing.T, s string, h head.Head, want state) {
	t.Helper()
	if _, got := told(t, s, h); !got.is(want) {
		t.Errorf("%q, %v: %v, not %v", s, h, got, want)
	}
}

// ends holds what a reader that was told a text, and its end, told against what it should; its end again, and bytes behind it, change nothing.
func ends(t *testing.T, s string, h head.Head, want state) {
	t.Helper()
	r, now := told(t, s, h)
	row, status := r.End()
	now = asks(t, r, now, row, status)
	if !now.is(want) {
		t.Errorf("%q and its end, %v: %v, not %v", s, h, now, want)
	}
	rests(t, r, now)
}

// rests holds that a reader that is over, or wrong, tells nothing more.
func rests(t *testing.T, r *Reader, now state) {
	t.Helper()
	for _, c := range []byte(" 1x#0\n\x00\xff") {
		row, status := r.Put(c)
		if len(row) != 0 || status != now.status || r.Error() != now.e || r.Rows() != len(now.rows) {
			t.Errorf("behind %v: Put(%q) = %v, %v; Error() = %v, Rows() = %d", now, c, row, status, r.Error(), r.Rows())
		}
		row, status = r.End()
		if len(row) != 0 || status != now.status || r.Error() != now.e || r.Rows() != len(now.rows) {
			t.Errorf("behind %v: End() = %v, %v; Error() = %v, Rows() = %d", now, row, status, r.Error(), r.Rows())
		}
	}
}

// reads holds what Read answers against what it should.
func reads(t *testing.T, s string, h head.Head, want []api.Pixel, used int, e api.Errno) {
	t.Helper()
	l, n, f := Read(s, h)
	if !slices.Equal(l, want) || n != used || f != e {
		t.Errorf("Read(%q, %v) = %v, %d, %v, not %v, %d, %v", s, h, l, n, f, want, used, e)
	}
}

// every tells each of the 256 bytes behind a text.
func every(t *testing.T, s string, h head.Head, want func(c byte) state) {
	t.Helper()
	for c := range 256 {
		is(t, s+string([]byte{byte(c)}), h, want(byte(c)))
	}
}

// P8.1

// noHeads are heads that may not be, of each kind, of other kinds, and of none.
func noHeads() []head.Head {
	l := []head.Head{{}, {W: 1, H: 1, Maxval: 1}}
	for _, kind := range []int{1, 2, 3, 4, 5, 6} {
		for _, n := range []int{0, -1, math.MinInt, widest + 1, math.MaxInt} {
			l = append(l, headOf(kind, n, 1, 1))
		}
		for _, n := range []int{0, -1, math.MinInt, highest + 1, math.MaxInt} {
			l = append(l, headOf(kind, 1, n, 1))
		}
		for _, n := range []int{0, -1, math.MinInt, deepest + 1, math.MaxInt} {
			l = append(l, head.Head{Kind: kind, W: 1, H: 1, Maxval: n})
		}
		l = append(l, head.Head{Kind: kind}, head.Head{Kind: kind, W: -1, H: -1, Maxval: 1})
	}
	for _, kind := range []int{1, 4} {
		l = append(l, head.Head{Kind: kind, W: 1, H: 1, Maxval: 2}, head.Head{Kind: kind, W: 1, H: 1, Maxval: 255})
	}
	for _, kind := range []int{0, -1, 7, 8, 49, 50, 51, math.MinInt, math.MaxInt} {
		l = append(l, head.Head{Kind: kind, W: 1, H: 1, Maxval: 1})
	}
	return l
}

// rawHeads are heads that may be, of the kinds that are not plain.
func rawHeads() []head.Head {
	var l []head.Head
	for _, kind := range []int{4, 5, 6} {
		l = append(l, headOf(kind, 1, 1, 1), headOf(kind, 8, 2, 1))
	}
	return append(l, headOf(5, 2, 1, 255), headOf(6, 2, 1, deepest))
}

func TestNewRefuses(t *testing.T) {
	for _, h := range append(noHeads(), rawHeads()...) {
		if r, e := New(h); r != nil || e != api.ErrArg {
			t.Errorf("New(%v) = %v, %v", h, r, e)
		}
	}
}

func TestNewWasToldNothing(t *testing.T) {
	for _, kind := range []int{1, 2, 3} {
		for _, h := range []head.Head{headOf(kind, 1, 1, 1), headOf(kind, widest, highest, deepest), headOf(kind, 1, highest, 255), headOf(kind, widest, 1, 256)} {
			is(t, "", h, goesOn())
			reads(t, "", h, nil, 0, api.ErrShort)
		}
	}
}

func TestExample(t *testing.T) {
	h := headOf(1, 3, 1, 1)
	for _, behind := range []string{"", "0", "x", "#", " ", "\xff"} {
		is(t, "1 01"+behind, h, over(gray(1, 0, 1)))
		reads(t, "1 01"+behind, h, gray(1, 0, 1), 4, api.OK)
	}
}

func TestEveryByteOfKind1(t *testing.T) {
	h := headOf(1, 3, 1, 1)
	for _, ahead := range []string{"", " ", "\n\n", "1", "0 ", "01", "1\t0\r"} {
		want := gray()
		for _, c := range []byte(ahead) {
			if isDigit(c) {
				want = append(want, gray(int(c-48))...)
			}
		}
		every(t, ahead, h, func(c byte) state {
			switch {
			case isBlank(c):
				return goesOn()
			case c == 48 || c == 49:
				if len(want) == 2 {
					return over(append(slices.Clone(want), gray(int(c-48))...))
				}
				return goesOn()
			}
			return wrong(api.ErrNumber)
		})
	}
}

func TestEveryByteAheadOfANumber(t *testing.T) {
	for _, h := range []head.Head{headOf(2, 2, 2, 255), headOf(3, 1, 1, 9), headOf(2, 2, 2, 5), headOf(3, 1, 1, 1)} {
		for _, ahead := range []string{"", " ", "\t\n\v\f\r ", "1 ", "1\n 0\r\n"} {
			var rows [][]api.Pixel
			if h.Kind == 2 && strings.Contains(ahead, "0") {
				rows = [][]api.Pixel{gray(1, 0)}
			}
			every(t, ahead, h, func(c byte) state {
				switch {
				case isBlank(c):
					return goesOn(rows...)
				case !isDigit(c):
					return wrong(api.ErrNumber, rows...)
				case int(c-48) > h.Maxval:
					return wrong(api.ErrSample, rows...)
				}
				return goesOn(rows...)
			})
		}
	}
}

func TestEveryByteWithinANumber(t *testing.T) {
	for _, x := range []struct {
		s string
		h head.Head
		n int // the number that s ends with
	}{{"1", headOf(2, 1, 1, 255), 1}, {"25", headOf(2, 1, 1, 255), 25}, {"255", headOf(2, 1, 1, 255), 255}, {" 0", headOf(2, 1, 1, 7), 0}, {"000", headOf(2, 1, 1, 1), 0}, {"6553", headOf(2, 1, 1, deepest), 6553}, {"007", headOf(2, 1, 1, 79), 7}} {
		every(t, x.s, x.h, func(c byte) state {
			switch {
			case isBlank(c):
				return over(gray(x.n))
			case !isDigit(c):
				return wrong(api.ErrNumber)
			case 10*x.n+int(c-48) > x.h.Maxval:
				return wrong(api.ErrSample)
			}
			return goesOn()
		})
		three := head.Head{Kind: 3, W: 1, H: 1, Maxval: x.h.Maxval}
		every(t, "0 1\n"+x.s, three, func(c byte) state {
			switch {
			case isBlank(c):
				return over(color(0, 1, x.n))
			case !isDigit(c):
				return wrong(api.ErrNumber)
			case 10*x.n+int(c-48) > x.h.Maxval:
				return wrong(api.ErrSample)
			}
			return goesOn()
		})
	}
}

func TestEveryByteBehindTheLastSample(t *testing.T) {
	for _, x := range []struct {
		s    string
		h    head.Head
		want state
	}{
		{"1 0\n0 1", headOf(1, 2, 2, 1), over(gray(1, 0), gray(0, 1))},
		{"1 2\n", headOf(2, 2, 1, 9), over(gray(1, 2))},
		{"1 2 3\n4 5 6 ", headOf(3, 1, 2, 9), over(color(1, 2, 3), color(4, 5, 6))},
	} {
		every(t, x.s, x.h, func(byte) state { return x.want })
		for c := range 256 {
			ends(t, x.s+string([]byte{byte(c)}), x.h, x.want)
		}
		ends(t, x.s, x.h, x.want)
	}
}

func TestEveryByteBehindAWrongOne(t *testing.T) {
	for _, x := range []struct {
		s    string
		h    head.Head
		want state
	}{
		{"2", headOf(1, 1, 1, 1), wrong(api.ErrNumber)},
		{"1 0\n0#", headOf(1, 2, 2, 1), wrong(api.ErrNumber, gray(1, 0))},
		{"x", headOf(2, 1, 1, 9), wrong(api.ErrNumber)},
		{"10", headOf(2, 1, 1, 9), wrong(api.ErrSample)},
		{"1 2\n3 #", headOf(2, 2, 2, 9), wrong(api.ErrNumber, gray(1, 2))},
		{"1 2\n3 4.", headOf(2, 2, 2, 9), wrong(api.ErrNumber, gray(1, 2))},
		{"1 2 3 4 5 66", headOf(3, 1, 2, 65), wrong(api.ErrSample, color(1, 2, 3))},
		{"1 2 3 4 5 6-", headOf(3, 1, 2, 65), wrong(api.ErrNumber, color(1, 2, 3))},
	} {
		every(t, x.s, x.h, func(byte) state { return x.want })
		for c := range 256 {
			ends(t, x.s+string([]byte{byte(c)}), x.h, x.want)
		}
		ends(t, x.s, x.h, x.want)
		reads(t, x.s, x.h, nil, 0, x.want.e)
		reads(t, x.s+" 1 1 1 1 1 1 1 ", x.h, nil, 0, x.want.e)
	}
}

func TestSamplesOfKind1NeedNoBlanks(t *testing.T) {
	h := headOf(1, 3, 2, 1)
	want := gray(1, 0, 1, 0, 1, 1)
	for _, s := range []string{"101011", "1 0 1 0 1 1", "1 0\n1\t011", " 101\n011", "\t\n\v\f\r 1\t0\n1\v0\f1\r1", "10 10 11", "   101011", "1\n\n\n01011"} {
		reads(t, s, h, want, len(s), api.OK)
		reads(t, s+" ", h, want, len(s), api.OK)
		reads(t, s+"1", h, want, len(s), api.OK)
		is(t, s, h, over(want[:3], want[3:]))
		is(t, s[:len(s)-1], h, goesOn(want[:3]))
		ends(t, s[:len(s)-1], h, wrong(api.ErrShort, want[:3]))
	}
}

func TestBlanksAndNoughts(t *testing.T) {
	two, three := headOf(2, 3, 1, 300), headOf(3, 1, 1, 300)
	for _, ahead := range append(blanks, "", "  ", "\t\n\v\f\r ", strings.Repeat(" ", 1000)) {
		for _, noughts := range []string{"", "0", "00", strings.Repeat("0", 1000)} {
			for _, between := range append(blanks, "  ", "\r\n", "\n\n\n", strings.Repeat("\f", 1000)) {
				s := ahead + noughts + "1" + between + noughts + "20" + between + noughts + "300"
				for _, end := range blanks {
					is(t, s, two, goesOn())
					is(t, s+end, two, over(gray(1, 20, 300)))
					is(t, s+end, three, over(color(1, 20, 300)))
					reads(t, s+end+between+"7", two, gray(1, 20, 300), len(s)+1, api.OK)
					reads(t, s+end+between+"7", three, color(1, 20, 300), len(s)+1, api.OK)
				}
				reads(t, s, two, gray(1, 20, 300), len(s), api.OK)
				reads(t, s, three, color(1, 20, 300), len(s), api.OK)
			}
		}
	}
}

func TestTheGreatestSample(t *testing.T) {
	for _, kind := range []int{2, 3} {
		for _, most := range []int{1, 2, 8, 9, 10, 11, 99, 100, 254, 255, 256, 999, 1000, 65534, 65535} {
			h := headOf(kind, 1, 1, most)
			ahead := strings.Repeat("0 ", samplesOf(kind)-1)
			samples := make([]int, samplesOf(kind))
			for _, n := range []int{0, 1, most - 1, most} {
				samples[len(samples)-1] = n
				want := pixels(kind, samples...)
				s := ahead + strconv.Itoa(n)
				is(t, s+" ", h, over(want))
				ends(t, s, h, over(want))
				reads(t, s, h, want, len(s), api.OK)
			}
			for _, n := range []int{most + 1, most + 2, 10 * most, 10*most + 9, 1 << 20, math.MaxInt} {
				s := strconv.Itoa(n)
				i := 1
				for v := int(s[0] - 48); v <= most; i++ {
					v = 10*v + int(s[i]-48)
				}
				is(t, ahead+s[:i-1], h, goesOn())
				is(t, ahead+s[:i], h, wrong(api.ErrSample))
				is(t, ahead+s, h, wrong(api.ErrSample))
				ends(t, ahead+s, h, wrong(api.ErrSample))
				reads(t, ahead+s, h, nil, 0, api.ErrSample)
				reads(t, ahead+s[:i]+"x", h, nil, 0, api.ErrSample)
				reads(t, ahead+s[:i-1]+"x", h, nil, 0, api.ErrNumber)
			}
		}
	}
}

func TestVeryManyDigits(t *testing.T) {
	for _, most := range []int{1, 255, deepest} {
		h := headOf(2, 2, 1, most)
		for _, c := range []string{"1", "9"} {
			for _, n := range []int{18, 19, 20, 21, 1000, 100000} {
				reads(t, "0 "+strings.Repeat(c, n)+" ", h, nil, 0, api.ErrSample)
				reads(t, "0 "+strings.Repeat(c, n)+"x", h, nil, 0, api.ErrSample)
			}
		}
		s := strings.Repeat("0", 100000) + "1 "
		reads(t, s+s+"x", h, gray(1, 1), 2*len(s), api.OK)
	}
	// no digits that go round some size of number
	for _, s := range []string{"256", "257", "65536", "65537", "4294967296", "4294967297", "18446744073709551616", "18446744073709551617"} {
		reads(t, s+" ", headOf(2, 1, 1, 255), nil, 0, api.ErrSample)
	}
}

func TestRemarksAreWrong(t *testing.T) {
	for kind := 1; kind <= 3; kind++ {
		h := headOf(kind, 3, 2, 9)
		for _, ahead := range []string{"", " ", "1", "1 ", "1 1 1 ", "1 1 1"} {
			for _, behind := range []string{"", "\n", "c\n1 1 1 1 1 1 "} {
				var rows [][]api.Pixel
				if kind == 1 && strings.Count(ahead, "1") == 3 || kind == 2 && ahead == "1 1 1 " {
					rows = [][]api.Pixel{gray(1, 1, 1)}
				}
				is(t, ahead+"#"+behind, h, wrong(api.ErrNumber, rows...))
				reads(t, ahead+"#"+behind, h, nil, 0, api.ErrNumber)
			}
		}
	}
}

// What is met first is why it is wrong.
func TestWhatIsMetFirst(t *testing.T) {
	two := headOf(2, 3, 1, 15)
	reads(t, "16 x", two, nil, 0, api.ErrSample)
	reads(t, "x 16", two, nil, 0, api.ErrNumber)
	reads(t, "1x6", two, nil, 0, api.ErrNumber)
	reads(t, "1-", two, nil, 0, api.ErrNumber)
	reads(t, "-1 ", two, nil, 0, api.ErrNumber)
	reads(t, "+1 ", two, nil, 0, api.ErrNumber)
	reads(t, "1.0 ", two, nil, 0, api.ErrNumber)
	reads(t, "1 2", two, nil, 0, api.ErrShort)
	reads(t, "1 2 16", two, nil, 0, api.ErrSample)
	reads(t, "1 2 15", two, gray(1, 2, 15), 6, api.OK)
	reads(t, "1 2 15x", two, nil, 0, api.ErrNumber)
	reads(t, "1 2 15 x", two, gray(1, 2, 15), 7, api.OK)
	one := headOf(1, 3, 1, 1)
	reads(t, "102", one, nil, 0, api.ErrNumber)
	reads(t, "10 ", one, nil, 0, api.ErrShort)
	reads(t, "1012", one, gray(1, 0, 1), 3, api.OK)
	reads(t, "9", one, nil, 0, api.ErrNumber)
}

func TestEnd(t *testing.T) {
	one, two, three := headOf(1, 2, 2, 1), headOf(2, 2, 2, 255), headOf(3, 1, 2, 255)
	for _, x := range []struct {
		s    string
		h    head.Head
		want state
	}{
		// ahead of all, and behind blanks alone
		{"", one, wrong(api.ErrShort)},
		{"", two, wrong(api.ErrShort)},
		{"", three, wrong(api.ErrShort)},
		{" \n", one, wrong(api.ErrShort)},
		{" \n", two, wrong(api.ErrShort)},
		{" \n", three, wrong(api.ErrShort)},
		// behind digits that end no row
		{"1", one, wrong(api.ErrShort)},
		{"12", two, wrong(api.ErrShort)},
		{"12", three, wrong(api.ErrShort)},
		{"12 13", three, wrong(api.ErrShort)},
		{"1 2 3", two, wrong(api.ErrShort, gray(1, 2))},
		{"1 2 3 4", three, wrong(api.ErrShort, color(1, 2, 3))},
		{"1 2 3 4 5", three, wrong(api.ErrShort, color(1, 2, 3))},
		{"101", one, wrong(api.ErrShort, gray(1, 0))},
		// behind digits that end a row that is not the last one: that is told
		{"10", one, wrong(api.ErrShort, gray(1, 0))},
		{"1 2", two, wrong(api.ErrShort, gray(1, 2))},
		{"1 2 3", three, wrong(api.ErrShort, color(1, 2, 3))},
		// behind a blank
		{"1 ", one, wrong(api.ErrShort)},
		{"10\n", one, wrong(api.ErrShort, gray(1, 0))},
		{"1 ", two, wrong(api.ErrShort)},
		{"1 2\n", two, wrong(api.ErrShort, gray(1, 2))},
		{"1 2 3\n", two, wrong(api.ErrShort, gray(1, 2))},
		{"1 2 3\n", three, wrong(api.ErrShort, color(1, 2, 3))},
		{"1 2 3 4 5 ", three, wrong(api.ErrShort, color(1, 2, 3))},
		// behind digits that end the last row, and behind a blank that did
		{"1001", one, over(gray(1, 0), gray(0, 1))},
		{"1 2 3 4", two, over(gray(1, 2), gray(3, 4))},
		{"1 2 3 4 ", two, over(gray(1, 2), gray(3, 4))},
		{"1 2 3 4 5 6", three, over(color(1, 2, 3), color(4, 5, 6))},
		{"1 2 3 4 5 6\n", three, over(color(1, 2, 3), color(4, 5, 6))},
	} {
		ends(t, x.s, x.h, x.want)
	}
}

// What End itself tells, and what was told ahead of it.
func TestEndTellsTheRowThatItEnds(t *testing.T) {
	h := headOf(2, 2, 2, 255)
	for _, x := range []struct {
		s           string
		ahead, rows int
		row         []api.Pixel
		status      token.Status
		e           api.Errno
	}{
		{"1 2", 0, 1, gray(1, 2), token.Wrong, api.ErrShort},
		{"1 2 ", 1, 1, nil, token.Wrong, api.ErrShort},
		{"1 2 3", 1, 1, nil, token.Wrong, api.ErrShort},
		{"1 2 3 4", 1, 2, gray(3, 4), token.Over, api.OK},
		{"1 2 3 4 ", 2, 2, nil, token.Over, api.OK},
		{"1 2 256", 1, 1, nil, token.Wrong, api.ErrSample},
		{"1 2 3 4.", 1, 1, nil, token.Wrong, api.ErrNumber},
	} {
		r, now := told(t, x.s, h)
		if len(now.rows) != x.ahead {
			t.Errorf("%q: %v", x.s, now)
		}
		row, status := r.End()
		if !slices.Equal(row, x.row) || status != x.status || r.Error() != x.e || r.Rows() != x.rows {
			t.Errorf("%q: End() = %v, %v; Error() = %v, Rows() = %d", x.s, row, status, r.Error(), r.Rows())
		}
	}
}

func TestReadersKnowNothingOfOneAnother(t *testing.T) {
	h := headOf(2, 2, 1, 99)
	a, b := reader(t, h), reader(t, h)
	for _, c := range []byte("12 3") {
		a.Put(c)
	}
	b.Put('4')
	b.Put('x')
	if row, status := a.Put(' '); !slices.Equal(row, gray(12, 3)) || status != token.Over || a.Error() != api.OK || a.Rows() != 1 {
		t.Error(row, status, a.Error(), a.Rows())
	}
	if b.Error() != api.ErrNumber || b.Rows() != 0 {
		t.Error(b.Error(), b.Rows())
	}
	is(t, "5 6 ", h, over(gray(5, 6)))
}

// What the chapter says of a whole text, by other means than byte by byte.

var (
	kind1 = regexp.MustCompile(`^[\t-\r 01]*$`)
	kind2 = regexp.MustCompile(`^[\t-\r ]*([0-9]+[\t-\r ]+)*[0-9]*$`)
)

// begins is what a text whose beginnings are not wrong, and not over, is.
func begins(s string, h head.Head) state {
	var words []string
	if h.Kind == 1 {
		if !kind1.MatchString(s) {
			return wrong(api.ErrNumber)
		}
		words = regexp.MustCompile(`[01]`).FindAllString(s, -1)
	} else {
		if !kind2.MatchString(s) {
			return wrong(api.ErrNumber)
		}
		words = strings.Fields(s)
		for _, w := range words {
			if n, _ := new(big.Int).SetString(w, 10); n.Cmp(big.NewInt(int64(h.Maxval))) > 0 {
				return wrong(api.ErrSample)
			}
		}
		if s != "" && isDigit(s[len(s)-1]) {
			words = words[:len(words)-1]
		}
	}
	var samples []int
	for _, w := range words {
		n, _ := strconv.Atoi(w)
		samples = append(samples, n)
	}
	var out state
	for row := range slices.Chunk(pixels(h.Kind, samples...), h.W) {
		if len(row) == h.W {
			out.rows = append(out.rows, row)
		}
	}
	if len(out.rows) == h.H {
		out.status = token.Over
	}
	return out
}

// after is what a reader that was told a text is, and how many bytes it took.
func after(s string, h head.Head) (state, int) {
	var last state
	for i := range len(s) + 1 {
		now := begins(s[:i], h)
		if now.status == token.Wrong {
			now.rows = last.rows
		}
		if now.status != token.More {
			return now, i
		}
		last = now
	}
	return last, len(s)
}

// holds holds a text, told and read, against what the chapter says of it.
func holds(t *testing.T, s string, h head.Head) {
	t.Helper()
	want, used := after(s, h)
	is(t, s, h, want)
	if want.status == token.More {
		if h.Kind != 1 && s != "" && isDigit(s[len(s)-1]) {
			want, _ = after(s+" ", h)
		}
		if want.status == token.More {
			want.status, want.e = token.Wrong, api.ErrShort
		}
	}
	ends(t, s, h, want)
	if want.status == token.Wrong {
		reads(t, s, h, nil, 0, want.e)
	} else {
		reads(t, s, h, slices.Concat(want.rows...), used, api.OK)
	}
}

// texts tells all texts of some bytes, up to a length.
func texts(bytes string, most int, yield func(s string)) {
	var add func(s string)
	add = func(s string) {
		yield(s)
		if len(s) < most {
			for _, c := range bytes {
				add(s + string(c))
			}
		}
	}
	add("")
}

func TestShortTexts(t *testing.T) {
	for _, x := range []struct {
		bytes string
		most  int
		heads []head.Head
	}{
		{"01 2", 5, []head.Head{headOf(1, 1, 1, 1), headOf(1, 2, 1, 1), headOf(1, 1, 2, 1), headOf(1, 2, 2, 1), headOf(1, 4, 1, 1)}},
		{"01 #", 5, []head.Head{headOf(2, 1, 1, 1), headOf(2, 2, 1, 10), headOf(2, 1, 2, 1)}},
		{"19\nx", 5, []head.Head{headOf(2, 1, 1, 9), headOf(2, 1, 1, 18), headOf(2, 1, 2, 19), headOf(2, 2, 1, 191)}},
		{"1 2", 7, []head.Head{headOf(2, 2, 2, 11), headOf(2, 1, 3, 12), headOf(3, 1, 1, 1), headOf(3, 1, 1, 12)}},
	} {
		for _, h := range x.heads {
			texts(x.bytes, x.most, func(s string) { holds(t, s, h) })
		}
	}
}

// The beginnings of texts, each ended there.
func TestBeginnings(t *testing.T) {
	for _, x := range []struct {
		s string
		h head.Head
	}{
		{" 1 0\n1\t011 9", headOf(1, 3, 2, 1)},
		{" 1 02\n3 15\n.", headOf(2, 2, 2, 15)},
		{"1 20 300\n001 20 300\r\n7 ", headOf(3, 1, 2, 300)},
		{"1 2 3 4 5 6\n7 8 9 10 11 12", headOf(3, 2, 2, 12)},
		{"65535\n65534 0 65535 1 2 65536", headOf(2, 2, 4, deepest)},
		{"1 2 3\n4 5 6\n7 8 9x", headOf(2, 3, 3, 9)},
	} {
		for i := range len(x.s) + 1 {
			holds(t, x.s[:i], x.h)
		}
	}
}

// P8.2

func TestReadRefuses(t *testing.T) {
	for _, h := range append(noHeads(), rawHeads()...) {
		for _, s := range []string{"", "1", "1 1 1 1 ", "x", "#"} {
			reads(t, s, h, nil, 0, api.ErrArg)
		}
	}
}

func TestReadOfMuchThatIsNotThere(t *testing.T) {
	for kind := 1; kind <= 3; kind++ {
		h := headOf(kind, widest, highest, deepest)
		reads(t, "1 1 1 1 1 1 ", h, nil, 0, api.ErrShort)
		reads(t, "1 1 1 1 1 1 x", h, nil, 0, api.ErrNumber)
	}
}

func TestReadLeavesWhatIsBehind(t *testing.T) {
	for _, behind := range []string{"", " ", "0", "1", "7 ", "x", "#", "\n\nP1 1 1 1", "\x00\xff"} {
		reads(t, "10"+behind, headOf(1, 2, 1, 1), gray(1, 0), 2, api.OK)
		reads(t, "10 20 "+behind, headOf(2, 1, 2, 99), gray(10, 20), 6, api.OK)
		reads(t, "10 20 30\n"+behind, headOf(3, 1, 1, 99), color(10, 20, 30), 9, api.OK)
	}
}

func writes(t *testing.T, l []api.Pixel, h head.Head, want string) {
	t.Helper()
	if s, e := Write(l, h); s != want || e != api.OK {
		t.Errorf("Write(%v, %v) = %q, %v, not %q", l, h, s, e, want)
	}
}

func TestWriteOfKind1(t *testing.T) {
	o, l := strings.Repeat("0", 70), strings.Repeat("1", 70)
	for w, want := range map[int]string{
		1: "0\n", 2: "00\n", 69: o[1:] + "\n", 70: o + "\n", 71: o + "\n0\n",
		139: o + "\n" + o[1:] + "\n", 140: o + "\n" + o + "\n", 141: o + "\n" + o + "\n0\n", 210: o + "\n" + o + "\n" + o + "\n",
	} {
		noughts, ones := make([]int, w), slices.Repeat([]int{1}, w)
		wantOnes := strings.ReplaceAll(want, "0", "1")
		writes(t, gray(noughts...), headOf(1, w, 1, 1), want)
		writes(t, gray(ones...), headOf(1, w, 1, 1), wantOnes)
		// each row anew
		writes(t, gray(slices.Concat(noughts, ones, noughts)...), headOf(1, w, 3, 1), want+wantOnes+want)
	}
	writes(t, gray(slices.Concat(make([]int, 70), slices.Repeat([]int{1}, 70))...), headOf(1, 70, 2, 1), o+"\n"+l+"\n")
	writes(t, gray(1, 0, 1, 0, 0, 0), headOf(1, 3, 2, 1), "101\n000\n")
	writes(t, gray(1, 0, 1, 0, 0, 0), headOf(1, 2, 3, 1), "10\n10\n00\n")
	writes(t, gray(1, 0, 1, 0, 0, 0), headOf(1, 1, 6, 1), "1\n0\n1\n0\n0\n0\n")
}

func TestWriteOfNumbers(t *testing.T) {
	samples := []int{0, 9, 10, 99, 100, 999, 1000, 9999, 10000, deepest, 5, 42}
	lines := "0\n9\n10\n99\n100\n999\n1000\n9999\n10000\n65535\n5\n42\n"
	for _, w := range []int{1, 2, 3, 4, 6, 12} { // wherever rows end
		writes(t, gray(samples...), headOf(2, w, 12/w, deepest), lines)
	}
	lines = "0 9 10\n99 100 999\n1000 9999 10000\n65535 5 42\n"
	for _, w := range []int{1, 2, 4} {
		writes(t, color(samples...), headOf(3, w, 4/w, deepest), lines)
	}
	writes(t, color(1, 20, 300, 1, 20, 300), headOf(3, 1, 2, 300), "1 20 300\n1 20 300\n")
	writes(t, gray(0, 1), headOf(2, 2, 1, 1), "0\n1\n")
	wide := make([]int, 71)
	writes(t, gray(wide...), headOf(2, 71, 1, 1), strings.Repeat("0\n", 71))
}

func noWrite(t *testing.T, l []api.Pixel, h head.Head) {
	t.Helper()
	if s, e := Write(l, h); s != "" || e != api.ErrArg {
		t.Errorf("Write(%v, %v) = %q, %v", l, h, s, e)
	}
}

func TestWriteRefuses(t *testing.T) {
	for _, h := range append(noHeads(), rawHeads()...) {
		for _, l := range [][]api.Pixel{nil, gray(1), gray(1, 1), color(1, 1, 1), {7}, gray(make([]int, 16)...), color(make([]int, 48)...)} {
			noWrite(t, l, h)
		}
	}
	for kind := 1; kind <= 3; kind++ {
		h := headOf(kind, 2, 2, 15)
		fits := pixels(kind, slices.Repeat([]int{1}, 4*samplesOf(kind))...)
		if s, e := Write(fits, h); s == "" || e != api.OK {
			t.Errorf("Write(%v, %v) = %q, %v", fits, h, s, e)
		}
		for n := range 4 {
			noWrite(t, fits[:n], h)
		}
		noWrite(t, append(slices.Clone(fits), fits...), h)
		noWrite(t, append(slices.Clone(fits), fits[0]), h)
		noWrite(t, fits, headOf(kind, widest, highest, 15))
		for i := range fits {
			others := []api.Pixel{0, 1, 7, 1<<48 - 1, 1<<48 + 16, 2<<48 + 1, 1<<48 + 1<<16, 3<<48 + 16, 3<<48 + 16<<16, 3<<48 + 16<<32, 4 << 48, math.MaxUint64}
			switch kind {
			case 1:
				others = append(others, color(1, 1, 1)[0], gray(2)[0])
			case 2:
				others = append(others, color(1, 1, 1)[0])
			case 3:
				others = append(others, gray(1)[0])
			}
			for _, p := range others {
				l := slices.Clone(fits)
				l[i] = p
				noWrite(t, l, h)
			}
		}
	}
}

func TestDigits(t *testing.T) {
	for _, x := range []struct {
		l    []api.Pixel
		want int
	}{
		{nil, 0}, {[]api.Pixel{}, 0},
		{gray(0), 1}, {gray(9), 1}, {gray(10), 2}, {gray(99), 2}, {gray(100), 3}, {gray(999), 3}, {gray(1000), 4}, {gray(9999), 4}, {gray(10000), 5}, {gray(deepest), 5},
		{gray(0, 9, 10, 65535), 9},
		{color(0, 0, 0), 3}, {color(1, 20, 300), 6}, {color(65535, 9, 10), 8}, {color(65535, 65535, 65535), 15},
		{color(1, 20, 300, 1, 20, 300), 12},
		{slices.Concat(gray(10), color(1, 20, 300)), 8},
		{[]api.Pixel{0}, 0}, {[]api.Pixel{7, 65535, 1<<48 - 1, 2<<48 + 5, 1<<48 + 1<<16, 4 << 48, math.MaxUint64}, 0},
		{slices.Concat([]api.Pixel{7}, gray(12), []api.Pixel{math.MaxUint64}, color(1, 2, 3), []api.Pixel{0}), 5},
	} {
		if n := Digits(x.l); n != x.want {
			t.Errorf("Digits(%v) = %d, not %d", x.l, n, x.want)
		}
	}
}

// P8.3

// someRasters tells rasters of all kinds and some sizes.
func someRasters(yield func(l []api.Pixel, h head.Head)) {
	for kind := 1; kind <= 3; kind++ {
		for _, most := range []int{1, 9, 10, 255, 256, deepest} {
			for _, w := range []int{1, 2, 3, 69, 70, 71, 140, 141} {
				for _, rows := range []int{1, 2, 3, 7} {
					h := headOf(kind, w, rows, most)
					yield(pixels(kind, mixed(w*rows*samplesOf(kind), h.Maxval, w+rows)...), h)
				}
			}
		}
	}
}

func TestWhatIsWrittenIsReadAsItWas(t *testing.T) {
	someRasters(func(l []api.Pixel, h head.Head) {
		s, e := Write(l, h)
		if e != api.OK {
			t.Fatalf("Write(%v, %v): %v", l, h, e)
		}
		used := len(s)
		if h.Kind == 1 {
			used-- // the last sample needs no byte behind it
		}
		for _, behind := range []string{"", "x", " 1", s} {
			reads(t, s+behind, h, l, used, api.OK)
		}
		reads(t, s[:len(s)-1], h, l, len(s)-1, api.OK)
		var rows [][]api.Pixel
		for row := range slices.Chunk(l, h.W) {
			rows = append(rows, row)
		}
		is(t, s, h, over(rows...))
		ends(t, s, h, over(rows...))
		if n := Digits(l); n != strings.Count(s, "")-1-strings.Count(s, " ")-strings.Count(s, "\n") {
			t.Errorf("Digits(%v) = %d, of %q", l, n, s)
		}
	})
}

// Whatever blanks are between its words, a raster is the same; of the kind 1 none need be.
func TestBlanksChangeNoSample(t *testing.T) {
	someRasters(func(l []api.Pixel, h head.Head) {
		s, _ := Write(l, h)
		words := strings.Fields(s)
		if h.Kind == 1 {
			words = strings.Split(strings.Join(words, ""), "")
			one := strings.Join(words, "")
			reads(t, one, h, l, len(one), api.OK)
		}
		for _, between := range append(blanks, " \n\t\r\f\v") {
			x := strings.Join(words, between)
			reads(t, x, h, l, len(x), api.OK)
			reads(t, between+x, h, l, len(between+x), api.OK)
		}
	})
}

// What is cut off anywhere tells the rows that are whole, and is short.
func TestWhatIsCutOff(t *testing.T) {
	for kind := 1; kind <= 3; kind++ {
		h := headOf(kind, 3, 4, 300)
		s, _ := Write(pixels(kind, mixed(12*samplesOf(kind), h.Maxval, 5)...), h)
		for i := range len(s) + 1 {
			holds(t, s[:i], h)
			if l, n, e := Read(s[:i], h); i < len(s)-6 && (len(l) != 0 || n != 0 || e != api.ErrShort) {
				t.Errorf("Read(%q, %v) = %v, %d, %v", s[:i], h, l, n, e)
			}
		}
	}
}

func TestTheGreatestRows(t *testing.T) {
	for kind := 1; kind <= 3; kind++ {
		for _, h := range []head.Head{headOf(kind, widest, 2, deepest), headOf(kind, 1, highest, deepest)} {
			l := pixels(kind, mixed(h.W*h.H*samplesOf(kind), h.Maxval, 3)...)
			s, e := Write(l, h)
			back, _, f := Read(s, h)
			if e != api.OK || f != api.OK || !slices.Equal(back, l) {
				t.Errorf("%v: %v, %v", h, e, f)
			}
		}
	}
}

// R4

func TestArgumentsAreLeft(t *testing.T) {
	for kind := 1; kind <= 3; kind++ {
		room := pixels(kind, mixed(9*samplesOf(kind), 1, 4)...)
		room = append(room, 7, math.MaxUint64)
		were := slices.Clone(room)
		for n := range room {
			for w := 1; w <= 3; w++ {
				Write(room[:n], headOf(kind, w, 3, 9))
			}
			Digits(room[:n])
		}
		if !slices.Equal(room, were) {
			t.Error(room, were)
		}
	}
}

// grown writes over a list, and over its spare room.
func grown(l []api.Pixel) {
	l = l[:cap(l)]
	for i := range l {
		l[i] = 77
	}
}

func TestRowsStandForThemselves(t *testing.T) {
	for kind := 1; kind <= 3; kind++ {
		for _, w := range []int{1, 2, 3, 5, 8, 70} {
			h := headOf(kind, w, 5, 9)
			want := pixels(kind, mixed(w*5*samplesOf(kind), h.Maxval, 2)...)
			s, _ := Write(want, h)
			r := reader(t, h)
			var rows, were [][]api.Pixel
			for i := range len(s) {
				if row, _ := r.Put(s[i]); len(row) != 0 {
					rows, were = append(rows, row), append(were, slices.Clone(row))
					if len(rows)%2 == 0 {
						grown(row) // changes no row ahead, and none behind
					}
				}
			}
			if got := slices.Concat(were...); !slices.Equal(got, want) {
				t.Errorf("%v: %v, not %v", h, got, want)
			}
			for i, row := range rows {
				if i%2 == 0 && !slices.Equal(row, were[i]) {
					t.Errorf("%v: row %d is %v, not %v", h, i, row, were[i])
				}
			}
		}
	}
}

func TestTheRowOfTheEndStandsForItself(t *testing.T) {
	r, _ := told(t, "1 2 3 4", headOf(2, 2, 2, 9))
	row, _ := r.End()
	grown(row)
	if again, status := r.End(); len(again) != 0 || status != token.Over || r.Rows() != 2 || r.Error() != api.OK {
		t.Error(again, status)
	}
}

func TestReadIsNew(t *testing.T) {
	h := headOf(3, 2, 1, 99)
	s := "1 2 3 4 5 6 "
	first, _, _ := Read(s, h)
	second, _, _ := Read(s, h)
	grown(first)
	if want := color(1, 2, 3, 4, 5, 6); !slices.Equal(second, want) {
		t.Error(second, want)
	}
	reads(t, s, h, color(1, 2, 3, 4, 5, 6), 12, api.OK)
}
