package head

import (
	"math"
	"regexp"
	"slices"
	"strconv"
	"strings"
	"testing"

	"chequer/api"
	"chequer/token"
)

// The greatest of each field.
const (
	widest  = 4096
	highest = 65536
	deepest = 65535
)

var greatest = api.Limits{Width: widest, Height: highest, Maxval: deepest}

func isBlank(c byte) bool { return slices.Contains([]byte{9, 10, 11, 12, 13, 32}, c) }

func isEnd(c byte) bool { return c == 10 || c == 13 }

func isDigit(c byte) bool { return strings.Contains("0123456789", string(rune(c))) }

// ofBits tells whether heads of a kind have no greatest sample.
func ofBits(kind int) bool { return kind == 1 || kind == 4 }

// told is a reader that was told a text, and what it told of the last byte (More, if there is none).
func told(s string, l api.Limits) (*Reader, token.Status) {
	r := New(l)
	last := token.More
	for i := range len(s) {
		last = r.Put(s[i])
	}
	return r, last
}

// state is all that a reader tells.
type state struct {
	last token.Status
	h    Head
	e    api.Errno
}

// is holds what a reader that was told a text tells against what it should, twice: to ask changes nothing.
func is(t *testing.T, s string, l api.Limits, want state) {
	t.Helper()
	r, last := told(s, l)
	for range 2 {
		h, e := r.Head()
		if got := (state{last, h, e}); got != want {
			t.Errorf("%q, limits %v: %v, not %v", s, l, got, want)
		}
	}
}

// parsed holds what Parse answers against what it should.
func parsed(t *testing.T, s string, l api.Limits, want Head, used int, e api.Errno) {
	t.Helper()
	h, n, f := Parse(s, l)
	if h != want || n != used || f != e {
		t.Errorf("Parse(%q, %v) = %v, %d, %v, not %v, %d, %v", s, l, h, n, f, want, used, e)
	}
}

// What a reader tells that goes on, that is over, and that is wrong.

func goesOn() state { return state{token.More, Head{}, api.ErrState} }

func over(h Head) state { return state{token.Over, h, api.OK} }

func wrong(e api.Errno) state { return state{token.Wrong, Head{}, e} }

// becomes holds what a reader becomes with just the last byte of a text, and what Parse answers of it, with more behind, and without its last byte.
func becomes(t *testing.T, s string, l api.Limits, want state) {
	t.Helper()
	for i := range s {
		is(t, s[:i], l, goesOn())
		parsed(t, s[:i], l, Head{}, 0, api.ErrShort)
	}
	is(t, s, l, want)
	used := 0
	if want.last == token.Over {
		used = len(s)
	}
	e := want.e
	if e == api.ErrState {
		e = api.ErrShort
	}
	parsed(t, s, l, want.h, used, e)
	if want.last == token.More {
		return
	}
	for _, behind := range []string{"x", " ", "0", "#", "\n", "7 ", "P5 1 1 1 ", "\x00\xff"} {
		is(t, s+behind, l, want)
		parsed(t, s+behind, l, want.h, used, e)
	}
}

// every tells each of the 256 bytes behind a text.
func every(t *testing.T, s string, want func(c byte) state) {
	t.Helper()
	for c := range 256 {
		is(t, s+string([]byte{byte(c)}), greatest, want(byte(c)))
	}
}

// head is one of a kind, whose greatest sample is as it is told, but of the kinds that tell none.
func head(kind, w, h, maxval int) Head {
	if ofBits(kind) {
		maxval = 1
	}
	return Head{Kind: kind, W: w, H: h, Maxval: maxval}
}

// text is a head's bytes, whether it may be or not, each number behind one and the same text, and a text behind the last one.
func text(h Head, ahead, behind string) string {
	s := "P" + strconv.Itoa(h.Kind) + ahead + strconv.Itoa(h.W) + ahead + strconv.Itoa(h.H)
	if !ofBits(h.Kind) {
		s += ahead + strconv.Itoa(h.Maxval)
	}
	return s + behind
}

// P6.1

func TestNewWasToldNothing(t *testing.T) {
	for _, l := range []api.Limits{{}, greatest, {Width: 1, Height: 1, Maxval: 1}, {Width: -1, Height: math.MaxInt, Maxval: math.MinInt}} {
		is(t, "", l, goesOn())
	}
}

func TestPutExample(t *testing.T) {
	r := New(greatest)
	s := "P5 3 2 255\n"
	for i := range s {
		want := token.More
		if i == len(s)-1 {
			want = token.Over
		}
		if got := r.Put(s[i]); got != want {
			t.Errorf("%d: %v, not %v", i, got, want)
		}
	}
	want := Head{Kind: 5, W: 3, H: 2, Maxval: 255}
	if h, e := r.Head(); h != want || e != api.OK || Size(h) != 6 {
		t.Error(h, e, Size(h))
	}
}

func TestEveryFirstByte(t *testing.T) {
	every(t, "", func(c byte) state {
		if c == 80 {
			return goesOn()
		}
		return wrong(api.ErrMagic)
	})
}

func TestEverySecondByte(t *testing.T) {
	every(t, "P", func(c byte) state {
		if c >= 49 && c <= 54 {
			return goesOn()
		}
		return wrong(api.ErrMagic)
	})
}

func TestEveryThirdByte(t *testing.T) {
	for kind := 1; kind <= 6; kind++ {
		every(t, "P"+strconv.Itoa(kind), func(c byte) state {
			if isBlank(c) || c == 35 {
				return goesOn()
			}
			return wrong(api.ErrNumber)
		})
	}
}

// A third byte that is # begins a remark, and one that is a blank does not.
func TestEveryByteBehindTheThird(t *testing.T) {
	for kind := 1; kind <= 6; kind++ {
		k := "P" + strconv.Itoa(kind)
		every(t, k+"#", func(byte) state { return goesOn() })
		for _, b := range []string{"\t", "\n", "\v", "\f", "\r", " "} {
			every(t, k+b, func(c byte) state {
				if isBlank(c) || isDigit(c) || c == 35 {
					return goesOn()
				}
				return wrong(api.ErrNumber)
			})
		}
		for c := range 256 {
			s := k + "#" + string([]byte{byte(c)}) + "x"
			if isEnd(byte(c)) {
				is(t, s, greatest, wrong(api.ErrNumber))
			} else {
				is(t, s, greatest, goesOn())
			}
		}
	}
}

func TestEveryByteBehindTheLastNumber(t *testing.T) {
	for kind := 1; kind <= 6; kind++ {
		h := head(kind, 12, 34, 56)
		every(t, text(h, " ", ""), func(c byte) state {
			switch {
			case isBlank(c):
				return over(h)
			case c == 35, isDigit(c):
				return goesOn()
			}
			return wrong(api.ErrNumber)
		})
		every(t, text(h, " ", "#1 "), func(c byte) state {
			if isEnd(c) {
				return over(h)
			}
			return goesOn()
		})
	}
}

// Behind each number but the last one, and in it.
func TestEveryByteBehindOtherNumbers(t *testing.T) {
	for _, s := range []string{"P1 2", "P2 2", "P3 2 3", "P4#\n2", "P5 2#\n3", "P6\n\n12#x\n34"} {
		every(t, s, func(c byte) state {
			if isBlank(c) || isDigit(c) || c == 35 {
				return goesOn()
			}
			return wrong(api.ErrNumber)
		})
		every(t, s+" ", func(c byte) state {
			if isBlank(c) || isDigit(c) || c == 35 {
				return goesOn()
			}
			return wrong(api.ErrNumber)
		})
		every(t, s+"#", func(byte) state { return goesOn() })
	}
}

// What is over, or wrong, is told nothing more.
func TestEveryByteBehindTheEnd(t *testing.T) {
	for s, want := range map[string]state{
		"P5 1 2 3 ":  over(Head{5, 1, 2, 3}),
		"P1 1 2#\r":  over(Head{1, 1, 2, 1}),
		"P4 8 1\n":   over(Head{4, 8, 1, 1}),
		"Q":          wrong(api.ErrMagic),
		"P0":         wrong(api.ErrMagic),
		"P7":         wrong(api.ErrMagic),
		"P5x":        wrong(api.ErrNumber),
		"P55":        wrong(api.ErrNumber),
		"P5 4097":    wrong(api.ErrRange),
		"P5 0 ":      wrong(api.ErrRange),
		"P5 1 2 0\n": wrong(api.ErrRange),
		"P5 1 2 3x":  wrong(api.ErrNumber),
	} {
		every(t, s, func(byte) state { return want })
		becomes(t, s, greatest, want)
		is(t, s+"P5 7 7 7 # 9 \n x", greatest, want)
	}
}

func TestKinds(t *testing.T) {
	for kind := 1; kind <= 6; kind++ {
		becomes(t, text(head(kind, 5, 6, 7), " ", " "), greatest, over(head(kind, 5, 6, 7)))
		becomes(t, text(head(kind, 5, 6, 7), "\n", "\t"), greatest, over(head(kind, 5, 6, 7)))
	}
	for _, s := range []string{"P0", "P7", "P8", "P9", "P ", "P#", "P\n", "PP", "P-", "Pf", "P\x01", "P\xb1", "p", "p5", "5", " P5", "#\nP5", "\nP5", "\x00"} {
		at := 2
		if s[0] != 'P' {
			at = 1
		}
		becomes(t, s[:at], greatest, wrong(api.ErrMagic))
		is(t, s+" 1 1 1 ", greatest, wrong(api.ErrMagic))
	}
	for _, s := range []string{"P10", "P51", "P6x", "P1-", "P4,", "P2P", "P3\x00", "P3\xa0"} {
		becomes(t, s, greatest, wrong(api.ErrNumber))
	}
}

// Of 1 and 4 nothing but a width and a height is told, whatever limit there is of the greatest sample.
func TestKindsWithoutGreatestSample(t *testing.T) {
	for _, kind := range []int{1, 4} {
		k := "P" + strconv.Itoa(kind)
		for _, maxval := range []int{math.MinInt, -1, 0, 1, 2, 255, deepest, math.MaxInt} {
			l := api.Limits{Width: 9, Height: 9, Maxval: maxval}
			becomes(t, k+" 3 2 ", l, over(Head{kind, 3, 2, 1}))
			becomes(t, k+" 3 2#5 \n", l, over(Head{kind, 3, 2, 1}))
			parsed(t, k+" 3 2 7 ", l, Head{kind, 3, 2, 1}, 7, api.OK)
			parsed(t, k+" 3 2 0 ", l, Head{kind, 3, 2, 1}, 7, api.OK)
			parsed(t, k+" 3 2\nx", l, Head{kind, 3, 2, 1}, 7, api.OK)
		}
	}
	for _, kind := range []int{2, 3, 5, 6} {
		k := "P" + strconv.Itoa(kind)
		becomes(t, k+" 3 2 ", greatest, goesOn())
		becomes(t, k+" 3 2 1", greatest, goesOn())
		becomes(t, k+" 3 2 1 ", greatest, over(Head{kind, 3, 2, 1}))
	}
}

func TestBlanksAndRemarks(t *testing.T) {
	aheads := []string{" ", "\t", "\n", "\v", "\f", "\r", "  ", "\r\n", " \t\n\v\f\r ", "#\n", "#\r", "#x\n", "# 1 2 3 4 \r", "#\n#\n", "##\n", "#P5\r\n", " # \n", "#a\n #b\r\t#c\n", "#\x00\xff\n"}
	behinds := []string{" ", "\t", "\n", "\v", "\f", "\r", "#\n", "#\r", "#9 8 \n", "##\r", "#\t\v\f \n"}
	for kind := 1; kind <= 6; kind++ {
		h := head(kind, 21, 43, 65)
		for _, ahead := range aheads {
			for _, behind := range behinds {
				s := text(h, ahead, behind)
				is(t, s, greatest, over(h))
				parsed(t, s, greatest, h, len(s), api.OK)
				is(t, s[:len(s)-1], greatest, goesOn())
				parsed(t, s[:len(s)-1], greatest, Head{}, 0, api.ErrShort)
				parsed(t, s+" 7#", greatest, h, len(s), api.OK) // no blank, and no remark, behind it is the head's
			}
		}
	}
	many := strings.Repeat(" #9\n", 5000)
	becomes(t, "P5#"+strings.Repeat("1 ", 100), greatest, goesOn())
	s := text(Head{5, 1, 2, 3}, many, "#"+strings.Repeat("4 ", 5000)+"\n")
	parsed(t, s, greatest, Head{5, 1, 2, 3}, len(s), api.OK)
}

// A remark behind a number ends it, and what it holds is of no number.
func TestRemarksRightBehindNumbers(t *testing.T) {
	for s, h := range map[string]Head{
		"P5#1\n3#2\n2#4\n255#6\r": {5, 3, 2, 255},
		"P5 3#\r2#\r255#\r":       {5, 3, 2, 255},
		"P1#0\r3#0\n2#0\n":        {1, 3, 2, 1},
		"P6\n3#4 5 6 \n2 1#x\n":   {6, 3, 2, 1},
		"P2 3#\n\n2#\r\n7\n":      {2, 3, 2, 7},
	} {
		becomes(t, s, greatest, over(h))
	}
}

func TestNoughts(t *testing.T) {
	nought := []string{"0", "00", "000", strings.Repeat("0", 1000)}
	for _, k := range []string{"P1 ", "P2\n", "P3#\n", "P4 ", "P5 ", "P6 #x\n"} {
		fields := []string{k, k + "1 ", k + "4096#\n65536 "}
		if k[1] == '1' || k[1] == '4' {
			fields = fields[:2]
		}
		for _, s := range fields {
			for _, z := range nought {
				is(t, s+z, greatest, goesOn())
				is(t, s+z+"#", greatest, goesOn())
				is(t, s+z+"#1 ", greatest, goesOn())
				is(t, s+z+"x", greatest, wrong(api.ErrNumber))
				for _, end := range []string{"\t", "\n", "\v", "\f", "\r", " ", "#\n", "#\r", "#1 \r"} {
					is(t, s+z+end, greatest, wrong(api.ErrRange))
					is(t, s+z+end+"1 1 1 ", greatest, wrong(api.ErrRange))
					parsed(t, s+z+end+"1 1 1 ", greatest, Head{}, 0, api.ErrRange)
				}
			}
		}
	}
	for kind := 1; kind <= 6; kind++ {
		for _, z := range nought {
			h := head(kind, 7, 80, 900)
			is(t, text(h, " "+z, " "), greatest, over(h))
			parsed(t, text(h, "#\n"+z, "#\n"), greatest, h, len(text(h, "#\n"+z, "#\n")), api.OK)
		}
	}
}

// nearest is the one of the numbers from 1 to most that is nearest to n.
func nearest(n, most int) int {
	switch {
	case n < 1:
		return 1
	case n > most:
		return most
	}
	return n
}

// about are heads of each kind whose fields are about limits that may be, one field at a time beyond it.
func about(l api.Limits) []Head {
	hs := []Head{}
	for kind := 1; kind <= 6; kind++ {
		for _, w := range []int{1, l.Width - 1, l.Width, l.Width + 1} {
			hs = append(hs, head(kind, w, l.Height, l.Maxval))
		}
		for _, h := range []int{1, l.Height - 1, l.Height, l.Height + 1} {
			hs = append(hs, head(kind, l.Width, h, l.Maxval))
		}
		for _, maxval := range []int{1, l.Maxval - 1, l.Maxval, l.Maxval + 1} {
			hs = append(hs, head(kind, l.Width, l.Height, maxval))
		}
	}
	return hs
}

func TestLimits(t *testing.T) {
	most := []api.Limits{
		greatest,
		{Width: widest - 1, Height: highest - 1, Maxval: deepest - 1},
		{Width: widest + 1, Height: highest + 1, Maxval: deepest + 1},
		{Width: math.MaxInt, Height: math.MaxInt, Maxval: math.MaxInt},
		{Width: math.MaxInt, Height: 1, Maxval: 1},
		{Width: 1, Height: math.MaxInt, Maxval: 1},
		{Width: 1, Height: 1, Maxval: math.MaxInt},
		{Width: 5000, Height: 70000, Maxval: 70000},
		{},
		{Width: -1, Height: -1, Maxval: -1},
		{Width: math.MinInt, Height: math.MinInt, Maxval: math.MinInt},
		{Width: 0, Height: 7, Maxval: 7},
		{Width: 7, Height: -5, Maxval: 7},
		{Width: 7, Height: 7, Maxval: 0},
		{Width: 1, Height: 1, Maxval: 1},
		{Width: 2, Height: 3, Maxval: 4},
		{Width: 9, Height: 10, Maxval: 11},
		{Width: 100, Height: 99, Maxval: 255},
		{Width: 4096, Height: 4096, Maxval: 4096},
		{Width: 10, Height: 65536, Maxval: 12},
	}
	for _, l := range most {
		as := api.Limits{Width: nearest(l.Width, widest), Height: nearest(l.Height, highest), Maxval: nearest(l.Maxval, deepest)}
		was := l
		for _, h := range about(as) {
			within := h.W >= 1 && h.W <= as.Width && h.H >= 1 && h.H <= as.Height && h.Maxval >= 1 && (ofBits(h.Kind) || h.Maxval <= as.Maxval)
			for _, ahead := range []string{" ", "#1\n00"} {
				s := text(h, ahead, "\n")
				if within {
					is(t, s, l, over(h))
					parsed(t, s, l, h, len(s), api.OK)
					continue
				}
				is(t, s, l, wrong(api.ErrRange))
				parsed(t, s, l, Head{}, 0, api.ErrRange)
			}
		}
		if l != was {
			t.Error(l, was)
		}
	}
}

// With the digit with which a number is above its limit it is wrong, whatever is behind.
func TestTheDigitWithWhichItIsWrong(t *testing.T) {
	small := api.Limits{Width: 10, Height: 99, Maxval: 4}
	for _, x := range []struct {
		s string
		l api.Limits
	}{
		{"P5 4097", greatest}, {"P5 5000", greatest}, {"P5 40960", greatest}, {"P1#\n04097", greatest},
		{"P5 1 65537", greatest}, {"P4 1#\n70000", greatest}, {"P6 4096 655360", greatest},
		{"P5 1 1 65536", greatest}, {"P2 1 1 70000", greatest}, {"P3 4096 65536 655350", greatest},
		{"P5 11", small}, {"P5 20", small}, {"P5 100", small}, {"P5 10 100", small}, {"P5 10 99 5", small}, {"P5 10 99 10", small}, {"P5 1 1 9", small},
		{"P5 2", api.Limits{}}, {"P5 1 2", api.Limits{}}, {"P5 1 1 2", api.Limits{}}, {"P5 10", api.Limits{}},
	} {
		becomes(t, x.s, x.l, wrong(api.ErrRange))
	}
	// these would be small, if they went round
	for _, s := range []string{"18446744073709551617", "36893488147419103233", "1" + strings.Repeat("0", 64), strings.Repeat("9", 1000)} {
		for _, ahead := range []string{"P5 ", "P1 ", "P5 1 ", "P6 1 1 "} {
			is(t, ahead+s+" ", greatest, wrong(api.ErrRange))
			parsed(t, ahead+s+" 1 1 ", greatest, Head{}, 0, api.ErrRange)
		}
	}
}

// Each number is held against its own limit, and against no other one.
func TestEachNumberHasItsLimit(t *testing.T) {
	l := api.Limits{Width: 3, Height: 20, Maxval: 100}
	becomes(t, "P5 3 20 100 ", l, over(Head{5, 3, 20, 100}))
	becomes(t, "P5 4", l, wrong(api.ErrRange))
	becomes(t, "P5 3 21", l, wrong(api.ErrRange))
	becomes(t, "P5 3 20 101", l, wrong(api.ErrRange))
	l = api.Limits{Width: 100, Height: 20, Maxval: 3}
	becomes(t, "P6 100 20 3 ", l, over(Head{6, 100, 20, 3}))
	becomes(t, "P6 101", l, wrong(api.ErrRange))
	becomes(t, "P6 100 21", l, wrong(api.ErrRange))
	becomes(t, "P6 100 20 4", l, wrong(api.ErrRange))
}

func TestWhatIsMetFirst(t *testing.T) {
	for s, e := range map[string]api.Errno{
		"Q7x":           api.ErrMagic,
		"P7x 0 ":        api.ErrMagic,
		"P5x 0 ":        api.ErrNumber,
		"P5 x4097":      api.ErrNumber,
		"P5 4097x":      api.ErrRange,
		"P5 0x":         api.ErrNumber,
		"P5 0 x":        api.ErrRange,
		"P5 0#x":        api.ErrShort,
		"P5 0#x\n":      api.ErrRange,
		"P5 1 0 4097 ":  api.ErrRange,
		"P5 1 x 0 ":     api.ErrNumber,
		"P5 1 1 -0":     api.ErrNumber,
		"P5 1 1 1.":     api.ErrNumber,
		"P5 1 1 1":      api.ErrShort,
		"P5 1 1 1#x 2 ": api.ErrShort,
		"P5 1 1 65536x": api.ErrRange,
	} {
		parsed(t, s, greatest, Head{}, 0, e)
	}
}

func TestHeadInTheMidst(t *testing.T) {
	r := New(greatest)
	ask := func(want Head, e api.Errno) {
		t.Helper()
		if h, f := r.Head(); h != want || f != e {
			t.Error(h, f)
		}
	}
	s := "P6#x\n 12 \n34#\r56"
	for i := range len(s) {
		ask(Head{}, api.ErrState)
		if got := r.Put(s[i]); got != token.More {
			t.Errorf("%d: %v", i, got)
		}
	}
	ask(Head{}, api.ErrState)
	for _, c := range []byte{'\n', 'x', '0', ' ', '#', 'P'} {
		if got := r.Put(c); got != token.Over {
			t.Errorf("%q: %v", c, got)
		}
		ask(Head{6, 12, 34, 56}, api.OK)
	}
	r = New(greatest)
	r.Put('P')
	r.Put('5')
	for _, c := range []byte{'P', '5', ' ', '1', '\n', 'Q'} {
		if got := r.Put(c); got != token.Wrong {
			t.Errorf("%q: %v", c, got)
		}
		ask(Head{}, api.ErrNumber)
	}
}

func TestReadersKnowNothingOfOneAnother(t *testing.T) {
	l := api.Limits{Width: 9, Height: 9, Maxval: 9}
	a := New(l)
	l = greatest
	b := New(l)
	l = api.Limits{}
	s, u := "P5#x\n3 2 7 x", "P4 30 4096#\n"
	for i := range len(u) {
		wantA, wantB := token.More, token.More
		if i >= 10 {
			wantA = token.Over
		}
		if i == len(u)-1 {
			wantB = token.Over
		}
		if got := a.Put(s[i]); got != wantA {
			t.Errorf("%d: %v, not %v", i, got, wantA)
		}
		if got := b.Put(u[i]); got != wantB {
			t.Errorf("%d: %v, not %v", i, got, wantB)
		}
	}
	h, e := a.Head()
	g, f := b.Head()
	if (h != Head{5, 3, 2, 7}) || e != api.OK || (g != Head{4, 30, 4096, 1}) || f != api.OK {
		t.Error(h, e, g, f)
	}
}

func TestParse(t *testing.T) {
	for _, x := range []struct {
		s    string
		h    Head
		used int
	}{
		{"P5 3 2 255\n", Head{5, 3, 2, 255}, 11},
		{"P5 3 2 255\nxyz", Head{5, 3, 2, 255}, 11},
		{"P5 3 2 255\n\n", Head{5, 3, 2, 255}, 11},
		{"P5 3 2 255 #x\n", Head{5, 3, 2, 255}, 11},
		{"P5 3 2 255#x\n1", Head{5, 3, 2, 255}, 13},
		{"P1#c\n3 2 0101", Head{1, 3, 2, 1}, 9},
		{"P4\n8 1#x\n.", Head{4, 8, 1, 1}, 9},
		{"P2\r\n1\r\n1\r\n7\r\n0", Head{2, 1, 1, 7}, 12},
		{"P3 1 1 1 P5 2 2 2 ", Head{3, 1, 1, 1}, 9},
		{"P6 4096 65536 65535 \x00", Head{6, 4096, 65536, 65535}, 20},
		{"P5 0004096 065536 0065535\t", Head{5, 4096, 65536, 65535}, 26},
	} {
		parsed(t, x.s, greatest, x.h, x.used, api.OK)
		becomes(t, x.s[:x.used], greatest, over(x.h))
	}
	parsed(t, "", greatest, Head{}, 0, api.ErrShort)
	parsed(t, "", api.Limits{}, Head{}, 0, api.ErrShort)
}

// Every short text, held against the chapter's words as patterns.

const (
	leftOut = `(?:[\x09-\x0d\x20]|#[^\x0a\x0d]*[\x0a\x0d])*`
	ended   = leftOut + `([0-9]+)(?:[\x09-\x0d\x20]|#[^\x0a\x0d]*[\x0a\x0d])`
	open    = leftOut + `(?:([0-9]+)?(?:#[^\x0a\x0d]*)?)`
)

// patterns tell of a text behind a kind, whole, how many of its numbers are ended; of open ones another one may be begun behind these.
type patterns struct{ ended, open [4]*regexp.Regexp }

func chapter() patterns {
	var p patterns
	for n := range p.open {
		p.ended[n] = regexp.MustCompile(`(?s)^` + strings.Repeat(ended, n) + `$`)
		p.open[n] = regexp.MustCompile(`(?s)^` + strings.Repeat(ended, n) + open + `$`)
	}
	return p
}

// after is what a reader becomes that goes on ahead of the last byte of a text.
func (p patterns) after(s string, l api.Limits) state {
	switch {
	case len(s) == 0:
		return goesOn()
	case len(s) <= 2:
		if strings.HasPrefix("P1", s) || s == "P2" || s == "P3" || s == "P4" || s == "P5" || s == "P6" {
			return goesOn()
		}
		return wrong(api.ErrMagic)
	case !isBlank(s[2]) && s[2] != '#':
		return wrong(api.ErrNumber)
	}
	kind := int(s[1] - '0')
	numbers := 3
	if ofBits(kind) {
		numbers = 2
	}
	if m := p.ended[numbers].FindStringSubmatch(s[2:]); m != nil {
		if !may(m[1:], numbers, l) {
			return wrong(api.ErrRange)
		}
		v := append(ints(m[1:]), 1)
		return over(Head{kind, v[0], v[1], v[2]})
	}
	for n := range numbers {
		if m := p.open[n].FindStringSubmatch(s[2:]); m != nil {
			if !may(m[1:], n, l) {
				return wrong(api.ErrRange)
			}
			return goesOn()
		}
	}
	return wrong(api.ErrNumber)
}

// may tells whether no number is above its limit, and none of the first ones, that are ended, is 0.
func may(digits []string, ended int, l api.Limits) bool {
	most := []int{l.Width, l.Height, l.Maxval}
	for i, n := range ints(digits) {
		if n > most[i] || n == 0 && i < ended {
			return false
		}
	}
	return true
}

// ints are the numbers of texts, of an empty one 0.
func ints(digits []string) []int {
	l := []int{}
	for _, d := range digits {
		n, _ := strconv.Atoi("0" + d)
		l = append(l, n)
	}
	return l
}

// hold holds all texts that go on from s, by some more bytes, against the chapter's words.
func (p patterns) hold(t *testing.T, s, bytes string, more int, l api.Limits) {
	want := p.after(s, l)
	is(t, s, l, want)
	switch want.last {
	case token.Over:
		parsed(t, s, l, want.h, len(s), api.OK)
		parsed(t, s+"1", l, want.h, len(s), api.OK)
		return
	case token.Wrong:
		parsed(t, s, l, Head{}, 0, want.e)
		parsed(t, s+"1", l, Head{}, 0, want.e)
		return
	}
	parsed(t, s, l, Head{}, 0, api.ErrShort)
	if more == 0 {
		return
	}
	for i := range len(bytes) {
		p.hold(t, s+bytes[i:i+1], bytes, more-1, l)
	}
}

func TestShortTexts(t *testing.T) {
	p := chapter()
	l := api.Limits{Width: 2, Height: 10, Maxval: 1}
	p.hold(t, "", "P014567# \nx", 4, l)
	for _, s := range []string{"P1", "P4 1 ", "P2 2\n", "P6#\n1 1#\r"} {
		p.hold(t, s, "\n\r #012x", 5, l)
	}
	for kind := 1; kind <= 6; kind++ {
		p.hold(t, "P"+strconv.Itoa(kind), " #\n1", 7, l)
	}
}

// P6.2

func TestMayAndWrite(t *testing.T) {
	for kind := 1; kind <= 6; kind++ {
		maxvals := []int{1, 2, 254, 255, 256, deepest - 1, deepest}
		if ofBits(kind) {
			maxvals = []int{1}
		}
		for _, w := range []int{1, 2, 7, 8, 9, widest - 1, widest} {
			for _, h := range []int{1, 2, 10, highest - 1, highest} {
				for _, maxval := range maxvals {
					x := Head{kind, w, h, maxval}
					want := "P" + strconv.Itoa(kind) + "\n" + strconv.Itoa(w) + " " + strconv.Itoa(h) + "\n"
					if !ofBits(kind) {
						want += strconv.Itoa(maxval) + "\n"
					}
					if s, e := Write(x); s != want || e != api.OK || !May(x) {
						t.Errorf("Write(%v) = %q, %v, not %q; May %v", x, s, e, want, May(x))
					}
				}
			}
		}
	}
}

func TestWriteExamples(t *testing.T) {
	for want, h := range map[string]Head{
		"P1\n3 2\n":               {1, 3, 2, 1},
		"P2\n1 1\n1\n":            {2, 1, 1, 1},
		"P3\n10 20\n30\n":         {3, 10, 20, 30},
		"P4\n9 2\n":               {4, 9, 2, 1},
		"P5\n3 2\n255\n":          {5, 3, 2, 255},
		"P6\n2 1\n256\n":          {6, 2, 1, 256},
		"P6\n4096 65536\n65535\n": {6, widest, highest, deepest},
		"P4\n4096 65536\n":        {4, widest, highest, 1},
	} {
		if s, e := Write(h); s != want || e != api.OK {
			t.Errorf("Write(%v) = %q, %v, not %q", h, s, e, want)
		}
	}
}

func TestWhatMayNotBe(t *testing.T) {
	beyond := func(most int) []int { return []int{math.MinInt, -1, 0, most + 1, most + 2, math.MaxInt} }
	hs := []Head{{}}
	for _, kind := range beyond(6) {
		hs = append(hs, Head{kind, 1, 1, 1}, Head{kind, widest, highest, deepest})
	}
	for kind := 1; kind <= 6; kind++ {
		for _, w := range beyond(widest) {
			hs = append(hs, Head{kind, w, 1, 1})
		}
		for _, h := range beyond(highest) {
			hs = append(hs, Head{kind, 1, h, 1})
		}
		most := deepest
		if ofBits(kind) {
			most = 1
			hs = append(hs, Head{kind, 1, 1, 255}, Head{kind, 1, 1, deepest})
		}
		for _, maxval := range beyond(most) {
			hs = append(hs, Head{kind, 1, 1, maxval})
		}
		hs = append(hs, Head{kind, 0, 0, 0}, Head{kind, math.MaxInt, math.MaxInt, math.MaxInt})
	}
	for _, h := range hs {
		if s, e := Write(h); s != "" || e != api.ErrArg || May(h) {
			t.Errorf("Write(%v) = %q, %v; May %v", h, s, e, May(h))
		}
	}
}

func TestFormatRawAndSize(t *testing.T) {
	for _, x := range []struct {
		h    Head
		f    api.Format
		raw  bool
		size int
	}{
		{Head{1, 3, 2, 1}, api.Format{Channels: 1, Maxval: 1}, false, 0},
		{Head{2, 3, 2, 255}, api.Format{Channels: 1, Maxval: 255}, false, 0},
		{Head{2, 3, 2, 256}, api.Format{Channels: 1, Maxval: 256}, false, 0},
		{Head{3, 3, 2, 255}, api.Format{Channels: 3, Maxval: 255}, false, 0},
		{Head{3, 3, 2, 1}, api.Format{Channels: 3, Maxval: 1}, false, 0},
		{Head{4, 3, 2, 1}, api.Format{Channels: 1, Maxval: 1}, true, 2},
		{Head{5, 3, 2, 1}, api.Format{Channels: 1, Maxval: 1}, true, 6},
		{Head{5, 3, 2, 255}, api.Format{Channels: 1, Maxval: 255}, true, 6},
		{Head{5, 3, 2, 256}, api.Format{Channels: 1, Maxval: 256}, true, 12},
		{Head{6, 3, 2, 1}, api.Format{Channels: 3, Maxval: 1}, true, 18},
		{Head{6, 3, 2, 255}, api.Format{Channels: 3, Maxval: 255}, true, 18},
		{Head{6, 3, 2, 256}, api.Format{Channels: 3, Maxval: 256}, true, 36},
		{Head{1, widest, highest, 1}, api.Format{Channels: 1, Maxval: 1}, false, 0},
		{Head{2, widest, highest, deepest}, api.Format{Channels: 1, Maxval: deepest}, false, 0},
		{Head{3, widest, highest, deepest}, api.Format{Channels: 3, Maxval: deepest}, false, 0},
		{Head{4, widest, highest, 1}, api.Format{Channels: 1, Maxval: 1}, true, 33554432},
		{Head{5, widest, highest, 255}, api.Format{Channels: 1, Maxval: 255}, true, 268435456},
		{Head{5, widest, highest, deepest}, api.Format{Channels: 1, Maxval: deepest}, true, 536870912},
		{Head{6, widest, highest, 255}, api.Format{Channels: 3, Maxval: 255}, true, 805306368},
		{Head{6, widest, highest, deepest}, api.Format{Channels: 3, Maxval: deepest}, true, 1610612736},
	} {
		if Format(x.h) != x.f || Raw(x.h) != x.raw || Size(x.h) != x.size {
			t.Errorf("%v: %v, %v, %d, not %v, %v, %d", x.h, Format(x.h), Raw(x.h), Size(x.h), x.f, x.raw, x.size)
		}
	}
}

func TestSizeOfBits(t *testing.T) {
	for w, eighths := range map[int]int{1: 1, 2: 1, 7: 1, 8: 1, 9: 2, 15: 2, 16: 2, 17: 3, 24: 3, 25: 4, widest - 8: 511, widest - 7: 512, widest - 1: 512, widest: 512} {
		for _, h := range []int{1, 2, 3, 7, 8, 9, highest - 1, highest} { // an eighth of each row is rounded up, not one of all
			if got := Size(Head{4, w, h, 1}); got != h*eighths {
				t.Errorf("%d by %d: %d, not %d", w, h, got, h*eighths)
			}
		}
	}
}

func TestSizeOfSamples(t *testing.T) {
	for maxval, bytes := range map[int]int{1: 1, 2: 1, 127: 1, 128: 1, 254: 1, 255: 1, 256: 2, 257: 2, 511: 2, 512: 2, deepest: 2} {
		for _, w := range []int{1, 3, 8, 9, widest} {
			for _, h := range []int{1, 5, highest} {
				if got := Size(Head{5, w, h, maxval}); got != w*h*bytes {
					t.Errorf("5, %d by %d, %d: %d", w, h, maxval, got)
				}
				if got := Size(Head{6, w, h, maxval}); got != w*h*3*bytes {
					t.Errorf("6, %d by %d, %d: %d", w, h, maxval, got)
				}
				if a, b := Size(Head{2, w, h, maxval}), Size(Head{3, w, h, maxval}); a != 0 || b != 0 {
					t.Errorf("%d by %d, %d: %d, %d", w, h, maxval, a, b)
				}
			}
		}
	}
}

// Raw is asked of any head: it looks at its kind alone.
func TestRaw(t *testing.T) {
	for kind, want := range map[int]bool{math.MinInt: false, -4: false, -1: false, 0: false, 1: false, 2: false, 3: false, 4: true, 5: true, 6: true, 7: false, 8: false, 52: false, math.MaxInt: false} {
		for _, h := range []Head{{Kind: kind}, {kind, 1, 1, 1}, {kind, -1, math.MaxInt, math.MinInt}} {
			if got := Raw(h); got != want {
				t.Errorf("Raw(%v) = %v", h, got)
			}
		}
	}
}

// Of heads that may not be nothing is promised, but that there is an answer.
func TestNoCallPanics(t *testing.T) {
	some := []int{math.MinInt, -1, 0, 1, 256, math.MaxInt}
	for _, kind := range []int{math.MinInt, -1, 0, 1, 2, 3, 4, 5, 6, 7, math.MaxInt} {
		for _, n := range some {
			for _, m := range some {
				h := Head{kind, n, m, n}
				Format(h)
				Size(h)
				Raw(h)
			}
		}
	}
}

func TestAll(t *testing.T) {
	if All() != (api.Limits{Width: 4096, Height: 65536, Maxval: 65535}) {
		t.Error(All())
	}
	l := All()
	l.Width = 1
	if All() != greatest {
		t.Error(All())
	}
}

// P6.3

func TestWhatIsWrittenIsParsedAsItWas(t *testing.T) {
	for kind := 1; kind <= 6; kind++ {
		for _, w := range []int{1, 2, 9, 10, 4095, widest} {
			for _, h := range []int{1, 7, 100, 65535, highest} {
				for _, maxval := range []int{1, 9, 255, 256, 1000, deepest} {
					x := head(kind, w, h, maxval)
					s, e := Write(x)
					if e != api.OK {
						t.Fatal(x, e)
					}
					tight := api.Limits{Width: w, Height: h, Maxval: maxval}
					for _, l := range []api.Limits{greatest, tight, All()} {
						for _, behind := range []string{"", "0", " ", "\n", "#", "P1 1 1 ", "\x00\xff"} {
							parsed(t, s+behind, l, x, len(s), api.OK)
						}
						for i := range len(s) {
							parsed(t, s[:i], l, Head{}, 0, api.ErrShort)
						}
						is(t, s, l, over(x))
					}
				}
			}
		}
	}
}

// Whatever is parsed may be, and is written, and parsed again, as it was.
func TestWhatIsParsedMayBe(t *testing.T) {
	for kind := 1; kind <= 6; kind++ {
		for _, n := range []int{1, 2, 10, 255, 256, 4095, 4096, 4097, 65535, 65536, 65537} {
			for _, x := range []Head{{kind, n, 1, 1}, {kind, 1, n, 1}, head(kind, 1, 1, n)} {
				h, _, e := Parse(text(x, "\t#\r0", "#\n"), greatest)
				if (e == api.OK) != May(x) || May(h) != May(x) {
					t.Errorf("%v: %v, %v, May %v", x, h, e, May(x))
				}
				if e != api.OK {
					continue
				}
				s, _ := Write(h)
				parsed(t, s, greatest, x, len(s), api.OK)
			}
		}
	}
}
