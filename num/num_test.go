package num

import (
	"bytes"
	"math"
	"math/big"
	"slices"
	"strconv"
	"strings"
	"testing"

	"chequer/api"
)

const top = 1<<62 - 1

// mosts are greatest numbers that may be handed in.
func mosts() []int {
	return []int{0, 1, 4, 8, 9, 10, 11, 98, 99, 100, 101, 255, 1000, 4096, 65535, 65536, 1 << 32, 1<<53 + 1, 1 << 61, top - 7, top - 1, top}
}

// edges are ints at and beside where something changes.
func edges() []int {
	l := []int{math.MinInt, math.MinInt + 1, math.MaxInt - 1, math.MaxInt}
	for i := range 63 {
		for d := -2; d <= 2; d++ {
			n := 1<<i + d // the greatest, 2^62 + 2, is an int
			l = append(l, n, -n)
		}
	}
	for n := 1; n <= math.MaxInt/10; n *= 10 {
		l = append(l, 10*n-1, 10*n, 1-10*n, -10*n)
	}
	// about the root of the greatest int, whose square is at the edge
	l = append(l, 3037000499, 3037000500, -3037000499, -3037000500, math.MaxInt/3, math.MinInt/3, math.MaxInt/7, 7, -7, 3, -3)
	slices.Sort(l)
	return slices.Compact(l)
}

// withBytes are numbers that have bytes, some of each count of these.
func withBytes() []int {
	l := []int{0, top}
	for _, n := range edges() {
		if n > 0 && n < top {
			l = append(l, n)
		}
	}
	return l
}

// P2.1

func TestStep(t *testing.T) {
	for _, x := range []struct {
		n    int
		c    byte
		most int
		want int
		e    api.Errno
	}{
		{0, '0', 0, 0, api.OK},
		{0, '1', 0, 0, api.ErrRange},
		{0, '9', 9, 9, api.OK},
		{0, '9', 8, 0, api.ErrRange},
		{0, '5', 4, 0, api.ErrRange},
		{0, '0', 4, 0, api.OK},
		{1, '0', 9, 0, api.ErrRange},
		{1, '0', 10, 10, api.OK},
		{1, '1', 10, 0, api.ErrRange},
		{9, '9', 99, 99, api.OK},
		{9, '9', 98, 0, api.ErrRange},
		{6553, '5', 65535, 65535, api.OK},
		{6553, '6', 65535, 0, api.ErrRange},
		{6554, '0', 65535, 0, api.ErrRange},
		{65535, '0', 65535, 0, api.ErrRange},
		{461168601842738790, '3', top, top, api.OK},
		{461168601842738790, '4', top, 0, api.ErrRange},
		{461168601842738791, '0', top, 0, api.ErrRange},
		// ten times these is no int
		{922337203685477580, '9', top, 0, api.ErrRange},
		{1844674407370955161, '6', top, 0, api.ErrRange},
		{1844674407370955162, '0', top, 0, api.ErrRange},
		{top, '0', top, 0, api.ErrRange},
		{top, '9', top, 0, api.ErrRange},
		{top - 1, '0', top - 1, 0, api.ErrRange},
	} {
		if n, e := Step(x.n, x.c, x.most); n != x.want || e != x.e {
			t.Errorf("Step(%d, %q, %d) = %d, %v, not %d, %v", x.n, x.c, x.most, n, e, x.want, x.e)
		}
	}
}

func TestStepIsTenTimesAndTheDigit(t *testing.T) {
	for _, most := range mosts() {
		for _, n := range []int{0, 1, most / 10, most/10 + 1, most / 2, most - 1, most} {
			if n < 0 || n > most {
				continue
			}
			for d := range 10 {
				want, e := 0, api.ErrRange
				if n <= (math.MaxInt-9)/10 && 10*n+d <= most {
					want, e = 10*n+d, api.OK
				}
				if m, f := Step(n, byte('0'+d), most); m != want || f != e {
					t.Errorf("Step(%d, %d, %d) = %d, %v, not %d, %v", n, d, most, m, f, want, e)
				}
			}
		}
	}
}

func TestStepRefusesBytesThatAreNoDigit(t *testing.T) {
	for c := range 256 {
		if c >= '0' && c <= '9' {
			continue
		}
		// of the last two every digit would be too great: that it is none is told first
		for _, x := range [][2]int{{0, 9}, {1, 1000}, {0, 0}, {top, top}} {
			if n, e := Step(x[0], byte(c), x[1]); n != 0 || e != api.ErrNumber {
				t.Errorf("Step(%d, %d, %d) = %d, %v", x[0], c, x[1], n, e)
			}
		}
	}
}

func TestParse(t *testing.T) {
	for _, x := range []struct {
		s    string
		most int
		want int
		e    api.Errno
	}{
		{"0", 0, 0, api.OK},
		{"000", 0, 0, api.OK},
		{"1", 0, 0, api.ErrRange},
		{"01", 0, 0, api.ErrRange},
		{"7", 1000, 7, api.OK},
		{"007", 1000, 7, api.OK},
		{"999", 1000, 999, api.OK},
		{"1000", 1000, 1000, api.OK},
		{"0001000", 1000, 1000, api.OK},
		{"1001", 1000, 0, api.ErrRange},
		{"0001001", 1000, 0, api.ErrRange},
		{"10000", 1000, 0, api.ErrRange},
		{"5", 4, 0, api.ErrRange},
		{"1234567890", top, 1234567890, api.OK},
		{"4611686018427387903", top, top, api.OK},
		{"04611686018427387903", top, top, api.OK},
		{"4611686018427387904", top, 0, api.ErrRange},
		{"4611686018427387902", top - 1, top - 1, api.OK},
		{"4611686018427387903", top - 1, 0, api.ErrRange},
		// numbers that are no int, or that go round to one that would be small
		{"9223372036854775807", top, 0, api.ErrRange},
		{"9223372036854775808", top, 0, api.ErrRange},
		{"18446744073709551616", top, 0, api.ErrRange},
		{"18446744073709551623", 1000, 0, api.ErrRange},
		{"36893488147419103239", top, 0, api.ErrRange},
		{strings.Repeat("9", 1000), top, 0, api.ErrRange},
		{strings.Repeat("0", 1000) + "12", 12, 12, api.OK},
	} {
		if n, e := Parse(x.s, x.most); n != x.want || e != x.e {
			t.Errorf("Parse(%q, %d) = %d, %v, not %d, %v", x.s, x.most, n, e, x.want, x.e)
		}
	}
}

func TestParseRefusesTextsThatAreNoNumber(t *testing.T) {
	for _, most := range mosts() {
		for _, s := range []string{"", " ", "a", "-", "+", "-1", "-0", "+1", " 1", "x1", "0 ", "0x", "0x1", "0_0", "0.0", "0\x00", "\x000", "0\n", "/", ":", "0/", "0:", "é", "0é", "٣", "\xff", "0\xb0"} {
			if n, e := Parse(s, most); n != 0 || e != api.ErrNumber {
				t.Errorf("Parse(%q, %d) = %d, %v", s, most, n, e)
			}
		}
	}
	for c := range 256 {
		if c >= '0' && c <= '9' {
			continue
		}
		b := string([]byte{byte(c)})
		for _, s := range []string{b, b + "1", "1" + b, "1" + b + "1"} {
			if n, e := Parse(s, 1000); n != 0 || e != api.ErrNumber {
				t.Errorf("Parse(%q, 1000) = %d, %v", s, n, e)
			}
		}
	}
}

func TestParseTellsWhatIsMetFirst(t *testing.T) {
	for _, x := range []struct {
		s    string
		most int
		want api.Errno
	}{
		{"100a", 1000, api.ErrNumber},
		{"100a9999", 1000, api.ErrNumber},
		{"a9999", 1000, api.ErrNumber},
		{"a", 0, api.ErrNumber},
		{"0a1", 0, api.ErrNumber},
		{"1001a", 1000, api.ErrRange},
		{"10010a", 1000, api.ErrRange},
		{"9999 ", 1000, api.ErrRange},
		{"1a", 0, api.ErrRange},
		{"4611686018427387903a", top, api.ErrNumber},
		{"461168601842738790a4", top, api.ErrNumber},
		{"4611686018427387904a", top, api.ErrRange},
	} {
		if n, e := Parse(x.s, x.most); n != 0 || e != x.want {
			t.Errorf("Parse(%q, %d) = %d, %v, not 0, %v", x.s, x.most, n, e, x.want)
		}
	}
}

func TestParseAboutMost(t *testing.T) {
	for _, most := range mosts() {
		for d := -3; d <= 3; d++ {
			n := most + d
			if n < 0 {
				continue
			}
			want, e := n, api.OK
			if d > 0 {
				want, e = 0, api.ErrRange
			}
			for _, s := range []string{strconv.Itoa(n), "0" + strconv.Itoa(n), "0000000000000000000000" + strconv.Itoa(n)} {
				if m, f := Parse(s, most); m != want || f != e {
					t.Errorf("Parse(%q, %d) = %d, %v, not %d, %v", s, most, m, f, want, e)
				}
			}
		}
	}
}

func TestDecimalAndPlaces(t *testing.T) {
	for _, x := range []struct {
		n    int
		want string
	}{
		{0, "0"},
		{1, "1"},
		{-1, "-1"},
		{9, "9"},
		{10, "10"},
		{-9, "-9"},
		{-10, "-10"},
		{-7, "-7"},
		{1200, "1200"},
		{-1200, "-1200"},
		{1234567890, "1234567890"},
		{top, "4611686018427387903"},
		{1 << 62, "4611686018427387904"},
		{math.MaxInt, "9223372036854775807"},
		{-math.MaxInt, "-9223372036854775807"},
		{math.MinInt, "-9223372036854775808"},
	} {
		if s := Decimal(x.n); s != x.want {
			t.Errorf("Decimal(%d) = %q", x.n, s)
		}
		if n := Places(x.n); n != len(x.want) {
			t.Errorf("Places(%d) = %d, not %d", x.n, n, len(x.want))
		}
	}
	some := edges()
	for n := range 2001 {
		some = append(some, n-1000)
	}
	for _, n := range some {
		want := strconv.Itoa(n)
		if s := Decimal(n); s != want {
			t.Errorf("Decimal(%d) = %q", n, s)
		}
		if p := Places(n); p != len(want) {
			t.Errorf("Places(%d) = %d, not %d", n, p, len(want))
		}
	}
}

// P2.2

func TestPut(t *testing.T) {
	for _, x := range []struct {
		n    int
		want []byte
	}{
		{0, []byte{0}},
		{1, []byte{1}},
		{127, []byte{127}},
		{128, []byte{128, 1}},
		{129, []byte{129, 1}},
		{255, []byte{255, 1}},
		{256, []byte{128, 2}},
		{300, []byte{172, 2}},
		{16383, []byte{255, 127}},
		{16384, []byte{128, 128, 1}},
		{1<<21 - 1, []byte{255, 255, 127}},
		{1 << 21, []byte{128, 128, 128, 1}},
		{1<<56 - 1, []byte{255, 255, 255, 255, 255, 255, 255, 127}},
		{1 << 56, []byte{128, 128, 128, 128, 128, 128, 128, 128, 1}},
		{1 << 61, []byte{128, 128, 128, 128, 128, 128, 128, 128, 32}},
		{top, []byte{255, 255, 255, 255, 255, 255, 255, 255, 63}},
	} {
		if b, e := Put(x.n); !bytes.Equal(b, x.want) || e != api.OK {
			t.Errorf("Put(%d) = %v, %v, not %v", x.n, b, e, x.want)
		}
	}
}

func TestPutRefuses(t *testing.T) {
	for _, n := range []int{-1, -2, -127, -128, -300, -top, math.MinInt, math.MinInt + 1, 1 << 62, 1<<62 + 1, math.MaxInt - 1, math.MaxInt} {
		if b, e := Put(n); len(b) != 0 || e != api.ErrArg {
			t.Errorf("Put(%d) = %v, %v", n, b, e)
		}
	}
}

func TestPutIsNewMemory(t *testing.T) {
	a, _ := Put(300)
	b, _ := Put(300)
	a[0], a[1] = 9, 9
	_ = append(a, 9)
	if c, _ := Put(300); !bytes.Equal(b, []byte{172, 2}) || !bytes.Equal(c, []byte{172, 2}) {
		t.Error(b, c)
	}
}

func TestPutIsItsDigitsTheLowestFirst(t *testing.T) {
	for _, n := range withBytes() {
		b, e := Put(n)
		if e != api.OK || len(b) == 0 || len(b) > 9 {
			t.Fatalf("Put(%d) = %v, %v", n, b, e)
		}
		sum := 0
		for i, c := range b {
			if last := i == len(b)-1; (c < 128) != last || last && c == 0 && n != 0 {
				t.Errorf("Put(%d) = %v", n, b)
			}
			sum += int(c&127) << (7 * i)
		}
		if sum != n {
			t.Errorf("Put(%d) = %v, of %d", n, b, sum)
		}
	}
}

// highs are so many bytes that have 128 more, each with the digit d, and then some others.
func highs(count int, d byte, behind ...byte) []byte {
	return append(bytes.Repeat([]byte{128 + d}, count), behind...)
}

func TestGet(t *testing.T) {
	for _, x := range []struct {
		b       []byte
		n, used int
		e       api.Errno
	}{
		{[]byte{0}, 0, 1, api.OK},
		{[]byte{0, 0}, 0, 1, api.OK},
		{[]byte{0, 255}, 0, 1, api.OK},
		{[]byte{1}, 1, 1, api.OK},
		{[]byte{127}, 127, 1, api.OK},
		{[]byte{127, 128}, 127, 1, api.OK},
		{[]byte{172, 2}, 300, 2, api.OK},
		{[]byte{172, 2, 172, 2}, 300, 2, api.OK},
		{[]byte{172, 2, 0}, 300, 2, api.OK},
		{[]byte{128, 1}, 128, 2, api.OK},
		{[]byte{128, 127}, 127 << 7, 2, api.OK},
		{highs(7, 0, 1), 1 << 49, 8, api.OK},
		{highs(7, 127, 127), 1<<56 - 1, 8, api.OK},
		{highs(8, 0, 1), 1 << 56, 9, api.OK},
		{highs(8, 127, 1), 1<<57 - 1, 9, api.OK},
		{highs(8, 0, 63), 63 << 56, 9, api.OK},
		{highs(8, 127, 63), top, 9, api.OK},
		{highs(8, 127, 63, 255, 0, 9), top, 9, api.OK},
	} {
		if n, used, e := Get(x.b); n != x.n || used != x.used || e != x.e {
			t.Errorf("Get(%v) = %d, %d, %v, not %d, %d", x.b, n, used, e, x.n, x.used)
		}
	}
}

func TestGetRefuses(t *testing.T) {
	for _, x := range []struct {
		b    []byte
		want api.Errno
	}{
		{nil, api.ErrShort},
		{[]byte{}, api.ErrShort},
		{[]byte{128}, api.ErrShort},
		{[]byte{255}, api.ErrShort},
		{[]byte{172, 130}, api.ErrShort},
		{highs(7, 127), api.ErrShort},
		{highs(8, 0), api.ErrShort},
		{highs(8, 127), api.ErrShort},
		{[]byte{128, 0}, api.ErrForm},
		{[]byte{128, 0, 1}, api.ErrForm},
		{[]byte{255, 0}, api.ErrForm},
		{[]byte{172, 130, 0}, api.ErrForm},
		{highs(7, 1, 0), api.ErrForm},
		{highs(8, 0, 0), api.ErrForm},
		{highs(8, 127, 0), api.ErrForm},
		{highs(8, 127, 0, 255), api.ErrForm},
		{highs(8, 0, 64), api.ErrRange},
		{highs(8, 127, 64), api.ErrRange},
		{highs(8, 0, 65), api.ErrRange},
		{highs(8, 0, 127), api.ErrRange},
		// a ninth byte with 128 more, whatever is behind it
		{highs(9, 0), api.ErrRange},
		{highs(9, 63), api.ErrRange},
		{highs(9, 127), api.ErrRange},
		{highs(9, 0, 0), api.ErrRange},
		{highs(9, 0, 1), api.ErrRange},
		{highs(10, 0), api.ErrRange},
		{highs(10, 0, 0), api.ErrRange},
		{highs(10, 127, 127), api.ErrRange},
		{highs(1000, 0), api.ErrRange},
	} {
		if n, used, e := Get(x.b); n != 0 || used != 0 || e != x.want {
			t.Errorf("Get(%v) = %d, %d, %v, not 0, 0, %v", x.b, n, used, e, x.want)
		}
	}
}

func TestGetOfEveryNinthByte(t *testing.T) {
	for c := range 256 {
		for _, d := range []byte{0, 1, 127} {
			low := 0
			for i := range 8 {
				low += int(d) << (7 * i)
			}
			n, used, e := Get(highs(8, d, byte(c)))
			wantN, wantUsed, want := 0, 0, api.ErrRange
			switch {
			case c == 0:
				want = api.ErrForm
			case c < 64:
				wantN, wantUsed, want = low+c<<56, 9, api.OK
			}
			if n != wantN || used != wantUsed || e != want {
				t.Errorf("Get of eight of %d and %d = %d, %d, %v, not %d, %d, %v", d, c, n, used, e, wantN, wantUsed, want)
			}
		}
	}
}

func TestGetLeavesItsBytes(t *testing.T) {
	b := []byte{172, 2, 5, 6}
	Get(b[:2])
	Get(b[:1])
	if !bytes.Equal(b, []byte{172, 2, 5, 6}) {
		t.Error(b)
	}
}

// P2.3

func TestAddAndMul(t *testing.T) {
	for _, x := range []struct {
		a, b, sum, product int
		add, mul           bool
	}{
		{0, 0, 0, 0, true, true},
		{2, 3, 5, 6, true, true},
		{-2, 3, 1, -6, true, true},
		{2, -3, -1, -6, true, true},
		{-2, -3, -5, 6, true, true},
		{math.MaxInt, 0, math.MaxInt, 0, true, true},
		{math.MaxInt, 1, 0, math.MaxInt, false, true},
		{math.MaxInt - 1, 1, math.MaxInt, math.MaxInt - 1, true, true},
		{math.MaxInt, -1, math.MaxInt - 1, -math.MaxInt, true, true},
		{math.MaxInt, math.MaxInt, 0, 0, false, false},
		{math.MaxInt, math.MinInt, -1, 0, true, false},
		{math.MinInt, 0, math.MinInt, 0, true, true},
		{math.MinInt, 1, math.MinInt + 1, math.MinInt, true, true},
		{math.MinInt, -1, 0, 0, false, false},
		{math.MinInt + 1, -1, math.MinInt, math.MaxInt, true, true},
		{math.MinInt, math.MinInt, 0, 0, false, false},
		{1 << 62, 1 << 62, 0, 0, false, false},
		{1 << 62, 1<<62 - 1, math.MaxInt, 0, true, false},
		{-1 << 62, -1 << 62, math.MinInt, 0, true, false},
		{-1 << 62, -1<<62 - 1, 0, 0, false, false},
		{1 << 62, 2, 1<<62 + 2, 0, true, false},
		{1 << 62, -2, 1<<62 - 2, math.MinInt, true, true},
		{-1 << 62, 2, -1<<62 + 2, math.MinInt, true, true},
		{-1 << 62, -2, -1<<62 - 2, 0, true, false},
		{1 << 32, 1 << 31, 1<<32 + 1<<31, 0, true, false},
		{1 << 32, -1 << 31, 1<<32 - 1<<31, math.MinInt, true, true},
		{1 << 32, 1 << 32, 1 << 33, 0, true, false},
		{3037000499, 3037000499, 2 * 3037000499, 9223372030926249001, true, true},
		{3037000500, 3037000500, 2 * 3037000500, 0, true, false},
		// goes round to a number that is above both
		{1<<40 + 1, 1<<24 + 1, 1<<40 + 1<<24 + 2, 0, true, false},
	} {
		for _, p := range [][2]int{{x.a, x.b}, {x.b, x.a}} {
			if n, is := Add(p[0], p[1]); n != x.sum || is != x.add {
				t.Errorf("Add(%d, %d) = %d, %v, not %d, %v", p[0], p[1], n, is, x.sum, x.add)
			}
			if n, is := Mul(p[0], p[1]); n != x.product || is != x.mul {
				t.Errorf("Mul(%d, %d) = %d, %v, not %d, %v", p[0], p[1], n, is, x.product, x.mul)
			}
		}
	}
}

// inInt is n and true, or 0 and false, if it is no int.
func inInt(n *big.Int) (int, bool) {
	if !n.IsInt64() {
		return 0, false
	}
	return int(n.Int64()), true
}

func TestAddAndMulOfAnyInts(t *testing.T) {
	some := edges()
	var sum, product big.Int
	for _, a := range some {
		for _, b := range some {
			x, y := big.NewInt(int64(a)), big.NewInt(int64(b))
			want, ok := inInt(sum.Add(x, y))
			if n, is := Add(a, b); n != want || is != ok {
				t.Fatalf("Add(%d, %d) = %d, %v, not %d, %v", a, b, n, is, want, ok)
			}
			want, ok = inInt(product.Mul(x, y))
			if n, is := Mul(a, b); n != want || is != ok {
				t.Fatalf("Mul(%d, %d) = %d, %v, not %d, %v", a, b, n, is, want, ok)
			}
		}
	}
}

// What just is an int, and what just is none any more, of each factor and summand.
func TestAddAndMulAboutTheEdge(t *testing.T) {
	for _, a := range edges() {
		if a != 0 && a != -1 {
			for _, limit := range []int{math.MaxInt, math.MinInt} {
				for d := -1; d <= 1; d++ {
					b := limit/a + d
					want, ok := inInt(new(big.Int).Mul(big.NewInt(int64(a)), big.NewInt(int64(b))))
					if n, is := Mul(a, b); n != want || is != ok {
						t.Errorf("Mul(%d, %d) = %d, %v, not %d, %v", a, b, n, is, want, ok)
					}
				}
			}
		}
		edge, over := math.MaxInt, 1
		if a < 0 {
			edge, over = math.MinInt, -1
		}
		if n, is := Add(a, edge-a); n != edge || !is {
			t.Errorf("Add(%d, %d) = %d, %v", a, edge-a, n, is)
		}
		if a != 0 {
			if n, is := Add(a, edge-a+over); n != 0 || is {
				t.Errorf("Add(%d, %d) = %d, %v", a, edge-a+over, n, is)
			}
		}
	}
}

// P2.4

func TestWhatIsPutIsGotAsItWas(t *testing.T) {
	some := withBytes()
	for n := range 1<<15 + 3 {
		some = append(some, n)
	}
	for _, n := range some {
		b, e := Put(n)
		if e != api.OK {
			t.Fatal(n, e)
		}
		for _, behind := range [][]byte{nil, {0}, {128}, {255, 255}} {
			if m, used, e := Get(slices.Concat(b, behind)); m != n || used != len(b) || e != api.OK {
				t.Fatalf("Put(%d) = %v, got with %v behind: %d, %d, %v", n, b, behind, m, used, e)
			}
		}
		for i := range b {
			if m, used, e := Get(b[:i]); m != 0 || used != 0 || e != api.ErrShort {
				t.Fatalf("Get of %d of the bytes %v = %d, %d, %v", i, b, m, used, e)
			}
		}
	}
}

// Bytes that are got are those that are put: no number has two.
func TestANumberHasOnlyItsBytes(t *testing.T) {
	for a := range 256 {
		for b := range 256 {
			for _, c := range []byte{0, 1, 2, 127, 128, 255} {
				l := []byte{byte(a), byte(b), c}
				n, used, e := Get(l)
				if e != api.OK {
					continue
				}
				if p, _ := Put(n); !bytes.Equal(p, l[:used]) {
					t.Fatalf("Get(%v) = %d, %d, but Put is %v", l, n, used, p)
				}
			}
		}
	}
}

func TestEveryDecimalIsParsedAsItWas(t *testing.T) {
	for _, n := range withBytes() {
		if m, e := Parse(Decimal(n), top); m != n || e != api.OK {
			t.Errorf("Parse(%q) = %d, %v", Decimal(n), m, e)
		}
	}
}
