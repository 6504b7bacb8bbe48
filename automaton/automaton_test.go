package automaton

import (
	"math"
	"slices"
	"testing"

	"chequer/api"
	"chequer/trie"
)

const (
	most = 1 << 20 // nodes
	top  = math.MaxUint64
)

func word(l ...api.Pixel) []api.Pixel { return l }

// What the chapter says of an automaton, by other means: each node and each word is a list of numbers, and all are gone through.

type model struct {
	nodes [][]api.Pixel
	words [][]api.Pixel
}

func modelOf(x *trie.Tree, words [][]api.Pixel) *model {
	m := &model{words: words}
	for n := range x.Len() {
		m.nodes = append(m.nodes, x.Path(n))
	}
	return m
}

// isLast tells whether numbers are the last ones of a list.
func isLast(numbers, l []api.Pixel) bool {
	return len(numbers) <= len(l) && slices.Equal(numbers, l[len(l)-len(numbers):])
}

// deepest is the deepest node that is of last numbers of a list, but not that other one.
func (m *model) deepest(l []api.Pixel, other int) int {
	found := -1
	for n, path := range m.nodes {
		if n != other && isLast(path, l) && (found < 0 || len(path) > len(m.nodes[found])) {
			found = n
		}
	}
	return found
}

func (m *model) fall(n int) int { return m.deepest(m.nodes[n], n) }

func (m *model) next(n int, p api.Pixel) int {
	return m.deepest(append(slices.Clone(m.nodes[n]), p), -1)
}

func (m *model) ends(n int) []int {
	var l []int
	for i, w := range m.words {
		if isLast(w, m.nodes[n]) {
			l = append(l, i)
		}
	}
	return l
}

func (m *model) link(n int) int {
	for n = m.fall(n); n >= 0; n = m.fall(n) {
		if slices.ContainsFunc(m.words, func(w []api.Pixel) bool { return slices.Equal(w, m.nodes[n]) }) {
			return n
		}
	}
	return -1
}

// Words to make automata of.

// lists are all lists of numbers, one up to so many.
func lists(numbers []api.Pixel, length int) [][]api.Pixel {
	var l [][]api.Pixel
	for _, p := range numbers {
		l = append(l, word(p))
		if length > 1 {
			for _, rest := range lists(numbers, length-1) {
				l = append(l, append(word(p), rest...))
			}
		}
	}
	return l
}

// mixer tells numbers without a rule to be seen, each below n.
func mixer(seed int) func(n int) int {
	state := uint64(seed)*2862933555777941757 + 3037000493
	return func(n int) int {
		state = state*6364136223846793005 + 1442695040888963407
		return int(state >> 33 % uint64(n))
	}
}

func mixed(next func(int) int, length, kinds int) []api.Pixel {
	w := make([]api.Pixel, length)
	for i := range w {
		w[i] = api.Pixel(next(kinds))
	}
	return w
}

func mixedWords(seed, count, length, kinds int) [][]api.Pixel {
	next := mixer(seed)
	var l [][]api.Pixel
	for range count {
		l = append(l, mixed(next, 1+next(length), kinds))
	}
	return l
}

func treeOf(t *testing.T, words ...[]api.Pixel) *trie.Tree {
	t.Helper()
	x := trie.New()
	for _, w := range words {
		if _, e := x.Put(w); e != api.OK {
			t.Fatalf("Put(%v): %v", w, e)
		}
	}
	return x
}

// at is the node of just these numbers.
func at(t *testing.T, x *trie.Tree, l ...api.Pixel) int {
	t.Helper()
	n, k := x.Walk(l)
	if k != len(l) {
		t.Fatalf("no node is of %v", l)
	}
	return n
}

// Automata held against what they should tell.

// stands holds all that an automaton tells of its states, and of what is behind these numbers.
func stands(t *testing.T, a *Auto, m *model, numbers []api.Pixel) {
	t.Helper()
	if a.Len() != len(m.nodes) {
		t.Errorf("%v: %d states, not %d", m.words, a.Len(), len(m.nodes))
		return
	}
	for n, path := range m.nodes {
		ends := m.ends(n)
		if fall, link := a.Fall(n), a.Link(n); fall != m.fall(n) || link != m.link(n) {
			t.Errorf("%v: %v falls to %d, links to %d, not %d, %d", m.words, path, fall, link, m.fall(n), m.link(n))
		}
		if got := a.Ends(n); !slices.Equal(got, ends) || a.Any(n) != (len(ends) > 0) {
			t.Errorf("%v: at %v end %v, %t, not %v", m.words, path, got, a.Any(n), ends)
		}
		for _, p := range numbers {
			if got, want := a.Next(n, p), m.next(n, p); got != want {
				t.Errorf("%v: behind %v, %d is %d, not %d", m.words, path, p, got, want)
			}
		}
		for o := range m.nodes {
			if want := slices.Equal(ends, m.ends(o)); a.Same(n, o) != want {
				t.Errorf("%v: Same(%d, %d) = %t", m.words, n, o, !want)
			}
		}
	}
	nowhere(t, a, len(m.nodes))
}

// nowhere holds what is told where there is no state.
func nowhere(t *testing.T, a *Auto, states int) {
	t.Helper()
	for _, n := range []int{states, states + 1, 2*states + 1, 1 << 32, 1<<32 + 1, 1 << 62, math.MaxInt, -1, -2, -states, -states - 1, -1 << 32, math.MinInt, math.MinInt + 1} {
		if a.Fall(n) != -1 || a.Link(n) != -1 || len(a.Ends(n)) != 0 || a.Any(n) {
			t.Errorf("no state %d: %d, %d, %v, %t", n, a.Fall(n), a.Link(n), a.Ends(n), a.Any(n))
		}
		for _, p := range word(0, 1, 2, 5, 1<<63, top) {
			if next := a.Next(n, p); next != -1 {
				t.Errorf("Next(%d, %d) = %d, of no state", n, p, next)
			}
		}
		if l := a.Run(n, word(1, 2, 3)); len(l) != 0 || len(a.Run(n, nil)) != 0 {
			t.Errorf("Run from %d: %v", n, l)
		}
		if a.Same(n, 0) || a.Same(0, n) || a.Same(n, states-1) || a.Same(states-1, n) || a.Same(n, n) || a.Same(n, n+1) {
			t.Errorf("at %d, which is no state, the same ends", n)
		}
	}
}

// P13.1

func TestExample(t *testing.T) {
	x := treeOf(t, word(1, 2, 1), word(2, 1))
	a := New(x)
	s := a.Run(0, word(1, 2, 1))
	if want := []int{at(t, x, 1), at(t, x, 1, 2), at(t, x, 1, 2, 1)}; !slices.Equal(s, want) {
		t.Fatalf("%v, not %v", s, want)
	}
	if l := a.Ends(s[2]); !slices.Equal(l, []int{0, 1}) {
		t.Errorf("behind 1 2 1 end %v", l)
	}
	if a.Any(s[0]) || a.Any(s[1]) {
		t.Error("something ends ahead of it")
	}
}

func TestRootAlone(t *testing.T) {
	x := trie.New()
	a := New(x)
	stands(t, a, modelOf(x, nil), word(0, 1, top))
	if a.Len() != 1 || a.Fall(0) != -1 || a.Link(0) != -1 || a.Any(0) || !a.Same(0, 0) {
		t.Errorf("%d states, of %d, %d", a.Len(), a.Fall(0), a.Link(0))
	}
	if s := a.Run(0, word(0, 1, top)); !slices.Equal(s, []int{0, 0, 0}) {
		t.Errorf("%v", s)
	}
}

// The chapter's words, one by one: falls over several levels, and links that go beyond falls at which no word ends.
func TestFallsAndLinks(t *testing.T) {
	x := treeOf(t, word(1, 2, 3, 4), word(2, 3, 4, 5), word(3, 4), word(4), word(2, 3, 9), word(9, 9))
	a := New(x)
	for _, c := range []struct {
		l          []api.Pixel
		fall, link []api.Pixel // no link, where that is empty
		ends       []int
	}{
		{word(1), nil, nil, nil},
		{word(1, 2), word(2), nil, nil},
		{word(1, 2, 3), word(2, 3), nil, nil},
		{word(1, 2, 3, 4), word(2, 3, 4), word(3, 4), []int{0, 2, 3}},
		{word(2, 3, 4), word(3, 4), word(3, 4), []int{2, 3}},
		{word(2, 3), word(3), nil, nil},
		{word(2, 3, 4, 5), nil, nil, []int{1}},
		{word(3, 4), word(4), word(4), []int{2, 3}},
		{word(4), nil, nil, []int{3}},
		{word(2, 3, 9), word(9), nil, []int{4}},
		{word(9), nil, nil, nil},
		{word(9, 9), word(9), nil, []int{5}},
	} {
		n, link := at(t, x, c.l...), -1
		if len(c.link) > 0 {
			link = at(t, x, c.link...)
		}
		if a.Fall(n) != at(t, x, c.fall...) || a.Link(n) != link || !slices.Equal(a.Ends(n), c.ends) {
			t.Errorf("%v: falls to %v, links to %v, ends %v", c.l, x.Path(a.Fall(n)), a.Link(n), a.Ends(n))
		}
	}
}

// Each three words, in each row, of few numbers that are far from one another, or of great length.
func TestEveryThreeWords(t *testing.T) {
	for _, words := range [][][]api.Pixel{lists(word(0, 1<<63, top), 2), lists(word(0, top), 3)} {
		for _, a := range words {
			for _, b := range words {
				for _, c := range words {
					l := [][]api.Pixel{a, b, c}
					x := treeOf(t, l...)
					stands(t, New(x), modelOf(x, l), word(0, 1, 1<<63, top-1, top))
				}
			}
		}
	}
}

func TestMixedWords(t *testing.T) {
	for seed := range 16 {
		kinds := 1 + seed%5
		words := mixedWords(seed, 25, 7, kinds)
		x := treeOf(t, words...)
		var numbers []api.Pixel
		for p := range kinds + 1 {
			numbers = append(numbers, api.Pixel(p))
		}
		stands(t, New(x), modelOf(x, words), numbers)
	}
}

// Numbers are held against one another as they are, of 64 bits without a sign.
func TestNextOfGreatNumbers(t *testing.T) {
	numbers := word(1<<63+1, 3, top, 0, 1<<32, 1<<63, 1, 1<<63-1, 1<<48, 65536, 65535, 1<<32-1, top-1, 1<<62)
	var words [][]api.Pixel
	for i, p := range numbers {
		words = append(words, word(p), word(p, numbers[len(numbers)-1-i]))
	}
	x := treeOf(t, words...)
	stands(t, New(x), modelOf(x, words), append(slices.Clone(numbers), 2, 4, 65537, 1<<33, 1<<63-2, 1<<63+2, top-2))
}

// What ends is told by the words' numbers, whichever is longer, and as often as it was put.
func TestEndsRise(t *testing.T) {
	for _, c := range []struct {
		words [][]api.Pixel
		ends  []int // at 1 1 1
	}{
		{[][]api.Pixel{{1}, {1, 1}, {1, 1, 1}}, []int{0, 1, 2}},
		{[][]api.Pixel{{1, 1, 1}, {1, 1}, {1}}, []int{0, 1, 2}},
		{[][]api.Pixel{{1, 1}, {1, 1, 1}, {1}}, []int{0, 1, 2}},
		{[][]api.Pixel{{1}, {1, 1, 1}, {2}, {1}, {1, 1, 1, 1}, {1, 1}, {1, 1, 1}, {1}}, []int{0, 1, 3, 5, 6, 7}},
		{[][]api.Pixel{{1, 1, 1}, {2, 1}, {1, 1, 1}, {1, 1, 1}}, []int{0, 2, 3}},
		{[][]api.Pixel{{1, 1, 1, 1}, {2, 1, 1}, {1, 2}}, nil},
	} {
		x := treeOf(t, c.words...)
		a, n := New(x), at(t, x, 1, 1, 1)
		if l := a.Ends(n); !slices.Equal(l, c.ends) || a.Any(n) != (len(c.ends) > 0) {
			t.Errorf("%v: %v, not %v", c.words, l, c.ends)
		}
	}
}

// An automaton is of the tree as it was then, and the tree knows nothing of it.
func TestTheTreeIsNotKept(t *testing.T) {
	words := mixedWords(3, 30, 6, 3)
	x := trie.New()
	var autos []*Auto
	var models []*model
	for i, w := range words {
		x.Put(w)
		autos, models = append(autos, New(x)), append(models, modelOf(x, words[:i+1]))
	}
	for i, a := range autos {
		stands(t, a, models[i], word(0, 1, 2, 3))
	}
	y := treeOf(t, words...)
	for n := range y.Len() {
		if !slices.Equal(x.Path(n), y.Path(n)) || !slices.Equal(x.Kids(n), y.Kids(n)) || !slices.Equal(x.Words(n), y.Words(n)) || x.Parent(n) != y.Parent(n) || x.Depth(n) != y.Depth(n) {
			t.Errorf("the tree's node %d is another one", n)
		}
	}
	if x.Len() != y.Len() {
		t.Errorf("the tree has %d nodes, not %d", x.Len(), y.Len())
	}
}

// P13.2

func TestRun(t *testing.T) {
	for seed := range 8 {
		kinds := 2 + seed%3
		words := mixedWords(seed, 12, 5, kinds)
		x := treeOf(t, words...)
		a, m, next := New(x), modelOf(x, words), mixer(seed+100)
		for n := range x.Len() {
			for length := range 9 {
				l := mixed(next, length, kinds+1)
				var want []int
				state := n
				for _, p := range l {
					state = m.next(state, p)
					want = append(want, state)
				}
				if s := a.Run(n, l); !slices.Equal(s, want) {
					t.Errorf("%v: Run(%d, %v) = %v, not %v", words, n, l, s, want)
				}
			}
		}
	}
}

func TestRunOfNoNumbers(t *testing.T) {
	a := New(treeOf(t, word(1, 2)))
	for n := -1; n <= a.Len(); n++ {
		if l := word(1); len(a.Run(n, nil)) != 0 || len(a.Run(n, word())) != 0 || len(a.Run(n, l[:0])) != 0 {
			t.Errorf("from %d: states behind nothing", n)
		}
	}
}

// The same words may end at states of other numbers, and as many words may be other ones.
func TestSame(t *testing.T) {
	x := treeOf(t, word(5), word(8, 5), word(3, 5, 1), word(7, 5, 2), word(7, 7), word(5), word(6), word(6, 8, 5))
	a := New(x)
	for _, c := range []struct {
		a, b []api.Pixel
		same bool
	}{
		{nil, nil, true}, {nil, word(8), true}, {word(3), word(7), true}, {word(5), word(5), true},
		{word(3, 5), word(7, 5), true}, {word(3, 5), word(5), true},
		{word(8, 5), word(5), false}, {word(8, 5), word(3, 5), false}, {nil, word(5), false},
		{word(6, 8, 5), word(8, 5), false}, {word(6, 8), nil, true}, {word(7, 7), word(7), false}, {word(6), word(5), false}, {word(3, 5, 1), word(7, 5, 2), false},
	} {
		n, m := at(t, x, c.a...), at(t, x, c.b...)
		if a.Same(n, m) != c.same || a.Same(m, n) != c.same {
			t.Errorf("%v, %v: %t", c.a, c.b, !c.same)
		}
	}
}

// P13.3

func TestFromTheRoot(t *testing.T) {
	for seed := range 8 {
		kinds := 2 + seed%3
		words := mixedWords(seed, 15, 6, kinds)
		x := treeOf(t, words...)
		a, m := New(x), modelOf(x, words)
		l := mixed(mixer(seed+50), 400, kinds)
		n := 0
		for i, s := range a.Run(0, l) {
			n = a.Next(n, l[i])
			if want := m.deepest(l[:i+1], -1); s != want || n != want {
				t.Fatalf("%v: behind %v is %d, %d, not %d", words, l[:i+1], s, n, want)
			}
		}
	}
}

// Great automata

func repeated(p api.Pixel, count int) []api.Pixel { return slices.Repeat(word(p), count) }

// The deepest tree that may be: each state falls to the one above it.
func TestDeepest(t *testing.T) {
	a := New(treeOf(t, repeated(7, most-1), word(7, 7, 7)))
	if a.Len() != most {
		t.Fatalf("%d states", a.Len())
	}
	for n := range most {
		link := -1
		if n > 3 {
			link = 3
		}
		if a.Fall(n) != n-1 || a.Link(n) != link || a.Any(n) != (n >= 3) {
			t.Fatalf("the state %d: %d, %d, %t", n, a.Fall(n), a.Link(n), a.Any(n))
		}
	}
	l := append(repeated(7, 2*most), 8, 7, 7, 7)
	for i, s := range a.Run(0, l) {
		want := min(i+1, most-1)
		if i >= 2*most {
			want = i - 2*most
		}
		if s != want {
			t.Fatalf("behind %d numbers is %d, not %d", i+1, s, want)
		}
	}
	if l := a.Ends(most - 1); !slices.Equal(l, []int{0, 1}) || !slices.Equal(a.Ends(most-2), []int{1}) {
		t.Errorf("ends %v", l)
	}
	if !a.Same(3, most-2) || a.Same(2, 3) || a.Same(most-2, most-1) {
		t.Error("another one is the same")
	}
	nowhere(t, a, most)
}

// The widest tree that may be: each state falls to the root.
func TestWidest(t *testing.T) {
	x := trie.New()
	for i := range most - 1 {
		x.Put(word(api.Pixel(2 * i)))
	}
	a := New(x)
	if a.Len() != most {
		t.Fatalf("%d states", a.Len())
	}
	for n := 1; n < most; n++ {
		p := api.Pixel(2 * (n - 1))
		if a.Fall(n) != 0 || a.Link(n) != -1 || a.Next(0, p) != n || a.Next(n-1, p) != n || a.Next(n, p+1) != 0 || !slices.Equal(a.Ends(n), []int{n - 1}) {
			t.Fatalf("the state %d: %d, %d, %v", n, a.Fall(n), a.Link(n), a.Ends(n))
		}
	}
	nowhere(t, a, most)
}

// Of a word of each length the last ones of all shorter ones end.
func TestManyEnds(t *testing.T) {
	const count = 1000
	x := trie.New()
	for length := count; length > 0; length-- {
		x.Put(repeated(7, length))
	}
	a := New(x)
	for n := 1; n <= count; n++ {
		l := a.Ends(n)
		if len(l) != n || l[0] != count-n || l[n-1] != count-1 || !slices.IsSorted(l) || a.Link(n) != n-1-max(0, 2-n) {
			t.Fatalf("the state %d: %d from %d to %d, links to %d", n, len(l), l[0], l[n-1], a.Link(n))
		}
	}
}

// R4, R5

// overwrite overwrites all of a list, and the room behind it.
func overwrite[T int | api.Pixel](l []T) {
	l = l[:cap(l)]
	for i := range l {
		l[i] = 99
	}
}

func TestWhatIsHandedInIsNotChanged(t *testing.T) {
	x := treeOf(t, word(1, 2), word(2, 1))
	a := New(x)
	room := word(1, 2, 1, 2, 77, 78)
	s := a.Run(0, room[:4])
	if !slices.Equal(room, word(1, 2, 1, 2, 77, 78)) {
		t.Errorf("became %v", room)
	}
	was := slices.Clone(s)
	overwrite(room)
	if !slices.Equal(s, was) {
		t.Errorf("%v became %v", was, s)
	}
}

func TestWhatIsAnsweredIsNew(t *testing.T) {
	words := append(mixedWords(4, 15, 5, 2), mixedWords(5, 15, 2, 2)...)
	x := treeOf(t, words...)
	a, m := New(x), modelOf(x, words)
	for n := range a.Len() {
		ends, states := a.Ends(n), a.Run(n, word(0, 1, 0))
		was := slices.Clone(states)
		overwrite(a.Ends(n))
		overwrite(a.Run(n, word(0, 1, 0)))
		overwrite(x.Words(n))
		if !slices.Equal(ends, m.ends(n)) || !slices.Equal(states, was) {
			t.Errorf("%v, %v of %v share with other answers", ends, states, m.nodes[n])
		}
	}
	stands(t, a, m, word(0, 1, 2))
}

// What was asked ahead changes nothing of what is answered.
func TestAutomataAreTheirOwn(t *testing.T) {
	words, others := mixedWords(6, 15, 5, 3), mixedWords(7, 15, 5, 3)
	x, y := treeOf(t, words...), treeOf(t, others...)
	a, again, b := New(x), New(x), New(y)
	for range 2 {
		stands(t, a, modelOf(x, words), word(0, 1, 2, 3))
		stands(t, b, modelOf(y, others), word(0, 1, 2, 3))
	}
	stands(t, again, modelOf(x, words), word(0, 1, 2, 3))
}
