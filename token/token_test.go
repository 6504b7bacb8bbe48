package token

import (
	"math/big"
	"regexp"
	"slices"
	"strconv"
	"strings"
	"testing"

	"chequer/api"
)

const top = 1<<62 - 1

// blanks are all bytes that are blanks.
func blanks() []byte { return []byte{9, 10, 11, 12, 13, 32} }

// ends are all bytes that end a remark.
func ends() []byte { return []byte{10, 13} }

func isBlank(c byte) bool { return slices.Contains(blanks(), c) }

func isEnd(c byte) bool { return slices.Contains(ends(), c) }

func isDigit(c byte) bool { return strings.Contains("0123456789", string(rune(c))) }

// told is a reader that was told a text, and what it told of the last byte (More, if there is none).
func told(s string, most int) (*Number, Status) {
	n := New(most)
	last := More
	for i := range len(s) {
		last = n.Put(s[i])
	}
	return n, last
}

// state is all that a reader tells.
type state struct {
	last  Status
	value int
	e     api.Errno
	begun bool
}

// is holds what a reader that was told a text tells against what it should, twice: to ask changes nothing.
func is(t *testing.T, s string, most int, want state) {
	t.Helper()
	n, last := told(s, most)
	for range 2 {
		value, e := n.Value()
		if got := (state{last, value, e, n.Begun()}); got != want {
			t.Errorf("%q, most %d: %v, not %v", s, most, got, want)
		}
	}
}

// What a reader tells that goes on, that is over, and that is wrong.

func goesOn(begun bool) state { return state{More, 0, api.ErrState, begun} }

func over(value int) state { return state{Over, value, api.OK, true} }

func wrong(e api.Errno, begun bool) state { return state{Wrong, 0, e, begun} }

// every tells each of the 256 bytes behind a text.
func every(t *testing.T, s string, most int, want func(c byte) state) {
	t.Helper()
	for c := range 256 {
		is(t, s+string([]byte{byte(c)}), most, want(byte(c)))
	}
}

// P5.1

func TestBlank(t *testing.T) {
	for c := range 256 {
		want := isBlank(byte(c))
		if got := Blank(byte(c)); got != want {
			t.Errorf("Blank(%d) = %v", c, got)
		}
	}
}

func TestStatus(t *testing.T) {
	if More != 0 || Over != 1 || Wrong != 2 {
		t.Error(More, Over, Wrong)
	}
}

func TestNewWasToldNothing(t *testing.T) {
	for _, most := range []int{0, 1, 9, 10, 255, top} {
		is(t, "", most, goesOn(false))
	}
}

func TestPutExample(t *testing.T) {
	n := New(100)
	for i, x := range []struct {
		c    byte
		want Status
	}{{32, More}, {49, More}, {50, More}, {10, Over}} {
		if got := n.Put(x.c); got != x.want {
			t.Errorf("%d: %v, not %v", i, got, x.want)
		}
	}
	if v, e := n.Value(); v != 12 || e != api.OK {
		t.Error(v, e)
	}
}

func TestPut(t *testing.T) {
	for _, x := range []struct {
		s    string
		want state
	}{
		{" ", goesOn(false)},
		{"\t\n\v\f\r ", goesOn(false)},
		{"#", goesOn(false)},
		{"#12 34x", goesOn(false)},
		{"#12 34x\n", goesOn(false)},
		{"#12 34x\r", goesOn(false)},
		{"##\n#", goesOn(false)},
		{"#a\n#b\r\n\n #c\n ", goesOn(false)},
		{"1", goesOn(true)},
		{"12", goesOn(true)},
		{"0", goesOn(true)},
		{" 12", goesOn(true)},
		{"#a\n12", goesOn(true)},
		{"12#", goesOn(true)},
		{"12#x 9 # \t\v\f", goesOn(true)},
		{"12 ", over(12)},
		{"0 ", over(0)},
		{"7\n", over(7)},
		{"#a 7\n12\r", over(12)},
		{"#a#b\r8\t", over(8)},
		{"#\n#\r9\f", over(9)},
		{"12#\n", over(12)},
		{"12#x 9 # \t\v\f\r", over(12)},
		{"12##\n", over(12)},
		{"#3\n12#4\n", over(12)},
		{"a", wrong(api.ErrNumber, false)},
		{"-1", wrong(api.ErrNumber, false)},
		{"+1 ", wrong(api.ErrNumber, false)},
		{" .", wrong(api.ErrNumber, false)},
		{"#a\nb", wrong(api.ErrNumber, false)},
		{"12a", wrong(api.ErrNumber, true)},
		{"12a ", wrong(api.ErrNumber, true)},
		{"1-2", wrong(api.ErrNumber, true)},
		{"1e2", wrong(api.ErrNumber, true)},
		{"101", wrong(api.ErrRange, true)},
		{"1000", wrong(api.ErrRange, true)},
		{"#\n999#", wrong(api.ErrRange, true)},
	} {
		is(t, x.s, 100, x.want)
	}
}

func TestEveryByteAheadOfDigits(t *testing.T) {
	for _, s := range []string{"", " ", "\n", "\v\f", "#\n", "#a 1\r", " #\r#b\n\t"} {
		every(t, s, 9, func(c byte) state {
			switch {
			case isBlank(c), c == 35:
				return goesOn(false)
			case isDigit(c):
				return goesOn(true)
			}
			return wrong(api.ErrNumber, false)
		})
	}
}

func TestEveryBlankAheadOfDigits(t *testing.T) {
	for _, b := range blanks() {
		s := string([]byte{b})
		is(t, s+s, 9, goesOn(false))
		is(t, s+"7", 9, goesOn(true))
		is(t, s+"7 ", 9, over(7))
		is(t, s+"x", 9, wrong(api.ErrNumber, false))
	}
}

// A byte of a remark ahead is left out, but for the one that ends it, behind which a digit is one again.
func TestEveryByteOfARemarkAhead(t *testing.T) {
	for _, s := range []string{"#", " #", "#ab", "#\n#", "# 1", "##", "#\x00"} {
		every(t, s, 9, func(byte) state { return goesOn(false) })
		for c := range 256 {
			behind := s + string([]byte{byte(c), '5'})
			is(t, behind, 9, goesOn(isEnd(byte(c))))
			if isEnd(byte(c)) {
				is(t, behind+" ", 9, over(5))
			} else {
				is(t, behind+" ", 9, goesOn(false))
			}
		}
	}
}

func TestEveryByteBehindADigit(t *testing.T) {
	for _, s := range []string{"1", "0", "12", "001", " 7", "#x\n42"} {
		value, _ := strconv.Atoi(strings.TrimPrefix(strings.TrimSpace(s), "#x\n"))
		every(t, s, 1000, func(c byte) state {
			switch {
			case isBlank(c):
				return over(value)
			case c == 35, isDigit(c):
				return goesOn(true)
			}
			return wrong(api.ErrNumber, true)
		})
	}
}

func TestEveryByteOfARemarkBehind(t *testing.T) {
	for _, s := range []string{"7#", "7##", "7# ", "7#x1", "07#\t", " 7#\xff", "#\n7#8"} {
		every(t, s, 7, func(c byte) state {
			if isEnd(c) {
				return over(7)
			}
			return goesOn(true)
		})
	}
}

// #, which begins a remark, ends no number: the remark's end does.
func TestWhatEndsANumber(t *testing.T) {
	for _, c := range []byte{9, 10, 11, 12, 13, 32, 35} {
		s := "42" + string([]byte{c})
		if c != 35 {
			is(t, s, 99, over(42))
			continue
		}
		is(t, s, 99, goesOn(true))
		for _, e := range ends() {
			is(t, s+string([]byte{e}), 99, over(42))
			is(t, s+"1 2"+string([]byte{e}), 99, over(42))
		}
		for _, b := range []byte{9, 11, 12, 32} {
			is(t, s+string([]byte{b}), 99, goesOn(true))
		}
	}
}

// What is over, or wrong, is told nothing more.
func TestEveryByteBehindTheEnd(t *testing.T) {
	for s, want := range map[string]state{
		"7 ":    over(7),
		"7\n":   over(7),
		"0\r":   over(0),
		"7#\n":  over(7),
		"7#x\r": over(7),
		"x":     wrong(api.ErrNumber, false),
		"7x":    wrong(api.ErrNumber, true),
		"\xb0":  wrong(api.ErrNumber, false),
		"72":    wrong(api.ErrRange, true),
		"8":     wrong(api.ErrRange, false),
		" 9":    wrong(api.ErrRange, false),
	} {
		every(t, s, 7, func(byte) state { return want })
		is(t, s+"#\n5 # 77 x 7 ", 7, want)
	}
}

func TestMost(t *testing.T) {
	for _, most := range []int{0, 1, 2, 8, 9, 10, 11, 99, 100, 255, 4096, 65535, 1 << 61, top - 1, top} {
		for d := -2; d <= 2; d++ {
			n := most + d
			if n < 0 {
				continue
			}
			for _, ahead := range []string{"", " ", "#1\n", "0", "000", strings.Repeat("0", 1000)} {
				s := ahead + strconv.Itoa(n)
				if d <= 0 {
					is(t, s, most, goesOn(true))
					is(t, s+" ", most, over(n))
					is(t, s+"#\r", most, over(n))
					continue
				}
				begun := n > 9 || strings.HasPrefix(ahead, "0") // else its only digit is the one with which it is wrong
				is(t, s, most, wrong(api.ErrRange, begun))
				is(t, s+" ", most, wrong(api.ErrRange, begun))
			}
		}
	}
}

func TestMostNought(t *testing.T) {
	for _, x := range []struct {
		s    string
		want state
	}{
		{"0", goesOn(true)},
		{"0 ", over(0)},
		{"0000\n", over(0)},
		{"00#\n", over(0)},
		{"1", wrong(api.ErrRange, false)},
		{"9", wrong(api.ErrRange, false)},
		{" 1 ", wrong(api.ErrRange, false)},
		{"01", wrong(api.ErrRange, true)},
		{"0x", wrong(api.ErrNumber, true)},
	} {
		is(t, x.s, 0, x.want)
	}
}

// It is wrong with the first digit that is too many, not with what ends the number.
func TestTheDigitWithWhichItIsWrong(t *testing.T) {
	for _, x := range []struct {
		s    string
		most int
	}{
		{"1", 0}, {"2", 1}, {"10", 1}, {"9", 8}, {"10", 9}, {"11", 10}, {"100", 10}, {"00011", 10},
		{"65536", 65535}, {"65540", 65535}, {"655350", 65535},
		{"4611686018427387904", top}, {"46116860184273879030", top}, {"00004611686018427387904", top},
		{"9223372036854775807", top}, {"9223372036854775808", top}, {"18446744073709551616", top}, // no ints from the second one on
	} {
		is(t, x.s[:len(x.s)-1], x.most, goesOn(len(x.s) > 1))
		is(t, x.s, x.most, wrong(api.ErrRange, len(x.s) > 1))
	}
	// these would be small, if they went round
	for _, s := range []string{"18446744073709551616", "18446744073709551623", "36893488147419103232", strings.Repeat("9", 1000), "1" + strings.Repeat("0", 64)} {
		is(t, s, top, wrong(api.ErrRange, true))
		is(t, s+" ", top, wrong(api.ErrRange, true))
		is(t, s+" ", 1000, wrong(api.ErrRange, true))
	}
}

func TestNoughtsAhead(t *testing.T) {
	is(t, "007 ", 7, over(7))
	is(t, "007 ", 10, over(7))
	is(t, strings.Repeat("0", 10000), 1, goesOn(true))
	is(t, strings.Repeat("0", 10000)+" ", 1, over(0))
	is(t, strings.Repeat("0", 10000)+"1 ", 1, over(1))
	is(t, strings.Repeat("0", 10000)+"2", 1, wrong(api.ErrRange, true))
}

func TestReadersKnowNothingOfOneAnother(t *testing.T) {
	a, b := New(99), New(9)
	for i, x := range []struct {
		n    *Number
		c    byte
		want Status
	}{{a, '#', More}, {b, '7', More}, {a, '5', More}, {b, '#', More}, {a, '\n', More}, {b, '8', More}, {a, '1', More}, {b, '\r', Over}, {a, '2', More}, {b, 'x', Over}, {a, ' ', Over}} {
		if got := x.n.Put(x.c); got != x.want {
			t.Errorf("%d: %v, not %v", i, got, x.want)
		}
	}
	v, e := a.Value()
	w, f := b.Value()
	if v != 12 || e != api.OK || w != 7 || f != api.OK {
		t.Error(v, e, w, f)
	}
}

// P5.2

// all holds what All answers against what it should.
func all(t *testing.T, s string, most int, want []int, used int, e api.Errno) {
	t.Helper()
	l, n, f := All(s, most)
	if !slices.Equal(l, want) || n != used || f != e {
		t.Errorf("All(%q, %d) = %v, %d, %v, not %v, %d, %v", s, most, l, n, f, want, used, e)
	}
}

func TestAll(t *testing.T) {
	for _, x := range []struct {
		s    string
		l    []int
		used int
		e    api.Errno
	}{
		{"", nil, 0, api.OK},
		{" ", nil, 0, api.OK},
		{"\t\n\v\f\r ", nil, 0, api.OK},
		{"#", nil, 0, api.OK},
		{"#a 1 2 ", nil, 0, api.OK},
		{"#a\n", nil, 0, api.OK},
		{"#a\r #b", nil, 0, api.OK},
		{"1", nil, 0, api.ErrShort},
		{" 12", nil, 0, api.ErrShort},
		{"#a\n12", nil, 0, api.ErrShort},
		{"1#", nil, 0, api.ErrShort},
		{"1#x 2 ", nil, 0, api.ErrShort},
		{"1 ", []int{1}, 2, api.OK},
		{"1#\n", []int{1}, 3, api.OK},
		{"1#x 2 \r", []int{1}, 7, api.OK},
		{"1 2 3 ", []int{1, 2, 3}, 6, api.OK},
		{"1\t2\n3\v4\f5\r6 ", []int{1, 2, 3, 4, 5, 6}, 12, api.OK},
		{"1 2\n 3#x\n #y", []int{1, 2, 3}, 9, api.OK},
		{"#0\n1#2\n#3\r4 #5\n", []int{1, 4}, 12, api.OK},
		{"7 7 7 0 00 007 ", []int{7, 7, 7, 0, 0, 7}, 15, api.OK},
		{"  1   2  ", []int{1, 2}, 8, api.OK},
		{"1\r\n2\r\n", []int{1, 2}, 5, api.OK},
		{"100 0100 ", []int{100, 100}, 9, api.OK},
		{"1 2", []int{1}, 2, api.ErrShort},
		{"1 2#", []int{1}, 2, api.ErrShort},
		{"1  2# 3 ", []int{1}, 2, api.ErrShort},
		{"1 #a\n2", []int{1}, 2, api.ErrShort},
		{"1 #a", []int{1}, 2, api.OK},
		{"1 #2 ", []int{1}, 2, api.OK},
		{"1 x 3 ", []int{1}, 2, api.ErrNumber},
		{"1 2 -3 ", []int{1, 2}, 4, api.ErrNumber},
		{"1 2x 3 ", []int{1}, 2, api.ErrNumber},
		{"1 999", []int{1}, 2, api.ErrRange},
		{"1 2 101 3 ", []int{1, 2}, 4, api.ErrRange},
		{"x", nil, 0, api.ErrNumber},
		{"  x", nil, 0, api.ErrNumber},
		{"#\nx 1 ", nil, 0, api.ErrNumber},
		{"1x", nil, 0, api.ErrNumber},
		{"101", nil, 0, api.ErrRange},
		{"101x", nil, 0, api.ErrRange},
		{"1x1000", nil, 0, api.ErrNumber},
		{"1 \x00", []int{1}, 2, api.ErrNumber},
		{"1 \xc2\xa02 ", []int{1}, 2, api.ErrNumber},
	} {
		all(t, x.s, 100, x.l, x.used, x.e)
	}
}

func TestAllAboutMost(t *testing.T) {
	for _, most := range []int{0, 1, 9, 10, 65535, top} {
		s := strconv.Itoa(most)
		all(t, s+" "+s+"\n0"+s+"#\r", most, []int{most, most, most}, 3*len(s)+5, api.OK)
		all(t, s+" "+strconv.Itoa(most+1)+" ", most, []int{most}, len(s)+1, api.ErrRange)
	}
	all(t, "0 1 2 ", 0, []int{0}, 2, api.ErrRange)
	all(t, "1 18446744073709551617 ", top, []int{1}, 2, api.ErrRange)
}

func TestAllOfMany(t *testing.T) {
	var b strings.Builder
	var want []int
	for i := range 20000 {
		b.WriteString(strconv.Itoa(i) + []string{" ", "\n", "#\r", "  ", "#x y\n#z\n"}[i%5])
		want = append(want, i)
	}
	s := b.String() // the last number is followed by two remarks, of which the first one ends it
	all(t, s, 20000, want, len(s)-len("#z\n"), api.OK)
	all(t, s+"x", 20000, want, len(s)-len("#z\n"), api.ErrNumber)
}

func TestAllIsNew(t *testing.T) {
	s := "1 2 3 "
	a, _, _ := All(s, 9)
	b, _, _ := All(s, 9)
	a[0], a[1], a[2] = 7, 7, 7
	_ = append(a, 7)
	if !slices.Equal(b, []int{1, 2, 3}) || s != "1 2 3 " {
		t.Error(b, s)
	}
	all(t, s, 9, []int{1, 2, 3}, 6, api.OK)
}

func TestSkip(t *testing.T) {
	for _, x := range []struct {
		s    string
		want int
	}{
		{"", 0},
		{" ", 1},
		{"\t\n\v\f\r ", 6},
		{"#", 1},
		{"#a 1 2 ", 7},
		{"#a\n", 3},
		{"#a\r", 3},
		{"#\r\n", 3},
		{"#a\r #b", 6},
		{" #a\r\n#b", 7},
		{"#a\v\f\t b", 7},
		{"x", 0},
		{"1", 0},
		{"0", 0},
		{"9 ", 0},
		{"1#x\n", 0},
		{"-", 0},
		{"\x00 ", 0},
		{"  x", 2},
		{"  0", 2},
		{"  5 ", 2},
		{"#a\nx", 3},
		{"#a\n0 ", 3},
		{"#a\n#b\r 7#c\n", 7},
		{" \n#1 2\r\r123 4", 8},
		{"  \xff", 2},
		{"\xc2\xa0", 0},
		{"#\xc2\x85x", 4},
		{strings.Repeat(" ", 5000) + "#" + strings.Repeat("9", 5000), 10001},
		{strings.Repeat("#\n", 5000) + "9", 10000},
	} {
		if got := Skip(x.s); got != x.want {
			t.Errorf("Skip(%q) = %d, not %d", x.s, got, x.want)
		}
	}
}

func TestSkipOfEveryByte(t *testing.T) {
	for c := range 256 {
		s := string([]byte{byte(c)})
		n := 0
		if isBlank(byte(c)) || c == 35 {
			n = 1
		}
		behind := n // of a blank, behind which x stands; a remark takes that, too
		if c == 35 {
			behind = 2
		}
		ended := 1
		if isEnd(byte(c)) {
			ended = 0
		}
		for text, want := range map[string]int{s: n, " " + s: 1 + n, s + "x": behind, "#\n" + s + "x": 2 + behind, "#" + s + "x": 2 + ended} {
			if got := Skip(text); got != want {
				t.Errorf("Skip(%q) = %d, not %d", text, got, want)
			}
		}
	}
}

// Every short text, held against the chapter's words as patterns.

const leftOut = `(?s)^(?:[\x09-\x0d\x20]|#[^\x0a\x0d]*[\x0a\x0d])*`

// patterns tell of a text that was told, whole, where the reader stands then.
type patterns struct{ notBegun, begun, over, digits, skipped *regexp.Regexp }

func chapter() patterns {
	return patterns{
		notBegun: regexp.MustCompile(leftOut + `(?:#[^\x0a\x0d]*)?$`),
		begun:    regexp.MustCompile(leftOut + `([0-9]+)(?:#[^\x0a\x0d]*)?$`),
		over:     regexp.MustCompile(leftOut + `([0-9]+)(?:[\x09-\x0d\x20]|#[^\x0a\x0d]*[\x0a\x0d])$`),
		digits:   regexp.MustCompile(leftOut + `[0-9]+$`),
		skipped:  regexp.MustCompile(leftOut + `(?:#[^\x0a\x0d]*$)?`),
	}
}

// after is what a reader tells that was told a text, and how many bytes of it.
func (p patterns) after(s string, most int) (state, int) {
	begun := false
	for i := range len(s) + 1 {
		b := s[:i]
		if m := p.over.FindStringSubmatch(b); m != nil {
			v, _ := strconv.Atoi(m[1])
			return over(v), i
		}
		m := p.begun.FindStringSubmatch(b)
		if p.notBegun.MatchString(b) || m != nil && atMost(m[1], most) {
			begun = m != nil
			continue
		}
		if p.digits.MatchString(b) {
			return wrong(api.ErrRange, begun), i
		}
		return wrong(api.ErrNumber, begun), i
	}
	return goesOn(begun), len(s)
}

// all is what All should answer.
func (p patterns) all(s string, most int) ([]int, int, api.Errno) {
	var l []int
	used := 0
	for {
		at, n := p.after(s[used:], most)
		switch {
		case at.last == Over:
			l, used = append(l, at.value), used+n
		case at.last == Wrong:
			return l, used, at.e
		case at.begun:
			return l, used, api.ErrShort
		default:
			return l, used, api.OK
		}
	}
}

func atMost(digits string, most int) bool {
	n, _ := new(big.Int).SetString(digits, 10)
	return n.Cmp(big.NewInt(int64(most))) <= 0
}

// texts are all texts of some bytes, up to a length.
func texts(of string, length int) []string {
	l := []string{""}
	for from, n := 0, 0; n < length; n++ {
		to := len(l)
		for _, s := range l[from:to] {
			for i := range len(of) {
				l = append(l, s+of[i:i+1])
			}
		}
		from = to
	}
	return l
}

func TestShortTexts(t *testing.T) {
	p := chapter()
	for _, s := range texts("\n\r #01x", 5) {
		for _, most := range []int{0, 1, 10} {
			want, _ := p.after(s, most)
			is(t, s, most, want)
			l, used, e := p.all(s, most)
			all(t, s, most, l, used, e)
		}
		if got, want := Skip(s), len(p.skipped.FindString(s)); got != want {
			t.Errorf("Skip(%q) = %d, not %d", s, got, want)
		}
	}
}

// P5.3

func TestWhatIsAheadChangesNoNumber(t *testing.T) {
	const most = 12
	rests := append(texts(" #\n1x", 3), "12 ", "12#\r", "13", "013 ", "1x", "12 11 x", "7 8#9\n13 ", "99 1 ")
	for _, ahead := range append(texts(" \n#", 4), "\t\v\f", "#7 x\n", "# 1 2\r\n", " #a\n #b\r\t", "#0\n") {
		if Skip(ahead) != len(ahead) {
			t.Errorf("Skip(%q) = %d", ahead, Skip(ahead))
		}
		whole := ahead + "\n" // a remark that goes on ends there
		for _, rest := range rests {
			n, last := told(rest, most)
			value, e := n.Value()
			is(t, whole+rest, most, state{last, value, e, n.Begun()})

			l, used, e := All(rest, most)
			if used > 0 {
				used += len(whole)
			}
			all(t, whole+rest, most, l, used, e)
			if got, want := Skip(whole+rest), len(whole)+Skip(rest); got != want {
				t.Errorf("Skip(%q) = %d, not %d", whole+rest, got, want)
			}
		}
	}
}
