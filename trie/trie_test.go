package trie

import (
	"math"
	"slices"
	"testing"

	"chequer/api"
)

const (
	most = 1 << 20 // nodes
	top  = math.MaxUint64
)

func word(l ...api.Pixel) []api.Pixel { return l }

// What the chapter says of a tree, by other means: each node and each word is a list of numbers, and all are gone through.

type model struct {
	nodes [][]api.Pixel
	words [][]api.Pixel
}

func modelOf(words ...[]api.Pixel) *model {
	m := &model{nodes: [][]api.Pixel{nil}}
	for _, w := range words {
		m.put(w)
	}
	return m
}

func (m *model) put(w []api.Pixel) {
	w = slices.Clone(w)
	for n := range w {
		if m.node(w[:n+1]) < 0 {
			m.nodes = append(m.nodes, w[:n+1])
		}
	}
	m.words = append(m.words, w)
}

// node is the one of just these numbers.
func (m *model) node(l []api.Pixel) int {
	return slices.IndexFunc(m.nodes, func(path []api.Pixel) bool { return slices.Equal(path, l) })
}

func (m *model) parent(n int) int {
	if n == 0 {
		return -1
	}
	return m.node(m.nodes[n][:len(m.nodes[n])-1])
}

func (m *model) kids(n int) []api.Pixel {
	var l []api.Pixel
	for i, path := range m.nodes {
		if m.parent(i) == n {
			l = append(l, path[len(path)-1])
		}
	}
	slices.Sort(l)
	return l
}

func (m *model) ends(n int) []int {
	var l []int
	for i, w := range m.words {
		if slices.Equal(w, m.nodes[n]) {
			l = append(l, i)
		}
	}
	return l
}

func (m *model) walk(w []api.Pixel) (int, int) {
	for k := len(w); ; k-- {
		if n := m.node(w[:k]); n >= 0 {
			return n, k
		}
	}
}

func (m *model) levels() [][2]int {
	var l [][2]int
	for depth := 1; len(l)+1 < len(m.nodes); depth++ {
		for n, path := range m.nodes {
			if len(path) == depth {
				l = append(l, [2]int{n, m.parent(n)})
			}
		}
	}
	return l
}

// Trees held against what they should tell.

// strangers are numbers of no node, and of no word, of a tree that has so many.
func strangers(count int) []int {
	return []int{count, count + 1, 2*count + 1, 1 << 32, 1<<32 + 1, 1 << 62, math.MaxInt, -1, -2, -count - 1, -1 << 32, math.MinInt, math.MinInt + 1}
}

// put puts words into a tree.
func put(t *testing.T, x *Tree, words ...[]api.Pixel) {
	t.Helper()
	for _, w := range words {
		if _, e := x.Put(w); e != api.OK {
			t.Errorf("Put(%v): %v", w, e)
		}
	}
}

func treeOf(t *testing.T, words ...[]api.Pixel) *Tree {
	t.Helper()
	x := New()
	put(t, x, words...)
	return x
}

func levelsOf(x *Tree) [][2]int {
	var l [][2]int
	for n, up := range x.Levels() {
		l = append(l, [2]int{n, up})
	}
	return l
}

// stands holds all that a tree tells of its nodes and its words.
func stands(t *testing.T, x *Tree, m *model) {
	t.Helper()
	if x.Len() != len(m.nodes) {
		t.Errorf("%v: %d nodes, not %d", m.words, x.Len(), len(m.nodes))
		return
	}
	for n, path := range m.nodes {
		if got := x.Path(n); !slices.Equal(got, path) || x.Depth(n) != len(path) || x.Parent(n) != m.parent(n) {
			t.Errorf("%v: the node %d is %v, depth %d, of %d, not %v of %d", m.words, n, got, x.Depth(n), x.Parent(n), path, m.parent(n))
		}
		if kids, words := x.Kids(n), x.Words(n); !slices.Equal(kids, m.kids(n)) || !slices.Equal(words, m.ends(n)) {
			t.Errorf("%v: the node %d has %v, ends %v, not %v, %v", m.words, n, kids, words, m.kids(n), m.ends(n))
		}
	}
	for i, w := range m.words {
		if n := x.Word(i); n != m.node(w) {
			t.Errorf("%v: the word %d ends at %d, not %d", m.words, i, n, m.node(w))
		}
	}
	if l := levelsOf(x); !slices.Equal(l, m.levels()) {
		t.Errorf("%v: levels %v, not %v", m.words, l, m.levels())
	}
	nowhere(t, x, len(m.nodes), len(m.words))
}

// nowhere holds what is told where there is no node, and no word.
func nowhere(t *testing.T, x *Tree, nodes, words int) {
	t.Helper()
	for _, n := range strangers(nodes) {
		if x.Parent(n) != -1 || x.Depth(n) != -1 || len(x.Path(n)) != 0 || len(x.Kids(n)) != 0 || len(x.Words(n)) != 0 {
			t.Errorf("no node %d: %d, %d, %v, %v, %v", n, x.Parent(n), x.Depth(n), x.Path(n), x.Kids(n), x.Words(n))
		}
		for _, p := range word(0, 1, 2, 5, top) {
			if child := x.Child(n, p); child != -1 {
				t.Errorf("Child(%d, %d) = %d, of no node", n, p, child)
			}
		}
	}
	for _, i := range strangers(words) {
		if n := x.Word(i); n != -1 {
			t.Errorf("Word(%d) = %d, of no word", i, n)
		}
	}
}

// leads holds children, and walks, of some numbers.
func leads(t *testing.T, x *Tree, m *model, numbers []api.Pixel, walks [][]api.Pixel) {
	t.Helper()
	for n, path := range m.nodes {
		for _, p := range numbers {
			if got, want := x.Child(n, p), m.node(append(slices.Clone(path), p)); got != want {
				t.Errorf("%v: Child(%d, %d) = %d, not %d", m.words, n, p, got, want)
			}
		}
	}
	for _, w := range walks {
		n, k := x.Walk(w)
		if node, count := m.walk(w); n != node || k != count {
			t.Errorf("%v: Walk(%v) = %d, %d, not %d, %d", m.words, w, n, k, node, count)
		}
	}
}

// lists are all lists of up to so many numbers.
func lists(numbers []api.Pixel, length int) [][]api.Pixel {
	l := [][]api.Pixel{nil}
	for from := 0; length > 0; length-- {
		last := l[from:]
		from = len(l)
		for _, w := range last {
			for _, p := range numbers {
				l = append(l, append(slices.Clone(w), p))
			}
		}
	}
	return l
}

// mixed are words without a rule to be seen, of numbers below kinds.
func mixed(count, length, kinds, seed int) [][]api.Pixel {
	state := uint64(seed)*2862933555777941757 + 3037000493
	next := func(n int) int {
		state = state*6364136223846793005 + 1442695040888963407
		return int(state >> 33 % uint64(n))
	}
	var l [][]api.Pixel
	for range count {
		var w []api.Pixel
		for range 1 + next(length) {
			w = append(w, api.Pixel(next(kinds)))
		}
		l = append(l, w)
	}
	return l
}

// P12.1

func TestNew(t *testing.T) {
	x := New()
	stands(t, x, modelOf())
	leads(t, x, modelOf(), word(0, 1, top), [][]api.Pixel{nil, {}, {0}, {1, 2}, {top}})
}

func TestExample(t *testing.T) {
	x := treeOf(t, word(1, 2), word(1, 3))
	if x.Len() != 4 {
		t.Errorf("%d nodes", x.Len())
	}
	if n, k := x.Walk(word(1, 3, 4)); n != 3 || k != 2 {
		t.Errorf("Walk of 1 3 4: %d, %d", n, k)
	}
}

func TestPutNumbersWords(t *testing.T) {
	x := New()
	m := modelOf()
	for i, w := range [][]api.Pixel{{5, 2}, {5, 9, 1}, {3}, {5, 2}, {5}, {5, 2}, {0}, {top}, {1 << 63, 0, top}, {5, 9, 1, 7}, {0}} {
		if got, e := x.Put(w); got != i || e != api.OK {
			t.Errorf("Put(%v) = %d, %v, not %d", w, got, e, i)
		}
		m.put(w)
		stands(t, x, m)
	}
}

func TestPutRefused(t *testing.T) {
	x := New()
	m := modelOf()
	for _, w := range [][]api.Pixel{{5, 2}, {3}, {5}} {
		for _, no := range [][]api.Pixel{nil, {}, w[:0]} {
			if i, e := x.Put(no); i != -1 || e != api.ErrArg {
				t.Errorf("Put of no numbers: %d, %v", i, e)
			}
			stands(t, x, m)
		}
		put(t, x, w)
		m.put(w)
	}
	stands(t, x, m)
}

// Each three words, in each row, of few numbers that are far from one another.
func TestEveryThreeWords(t *testing.T) {
	numbers := word(0, 1<<63, top)
	words := lists(numbers, 2)[1:]
	walks := lists(word(0, 1, 1<<63, top), 3)
	for _, a := range words {
		for _, b := range words {
			for _, c := range words {
				x, m := treeOf(t, a, b, c), modelOf(a, b, c)
				stands(t, x, m)
				leads(t, x, m, word(0, 1, 1<<63-1, 1<<63, 1<<63+1, top-1, top), walks)
			}
		}
	}
}

func TestMixedWords(t *testing.T) {
	for seed := range 12 {
		kinds := 2 + seed
		words := mixed(60, 7, kinds, seed)
		x, m := treeOf(t, words...), modelOf(words...)
		stands(t, x, m)
		var numbers []api.Pixel
		for p := range kinds + 2 {
			numbers = append(numbers, api.Pixel(p))
		}
		leads(t, x, m, numbers, append(words, mixed(60, 9, kinds+1, seed+100)...))
	}
}

// Numbers rise as they are, of 64 bits without a sign.
func TestKidsRise(t *testing.T) {
	rising := word(0, 1, 2, 255, 256, 65535, 65536, 1<<31-1, 1<<31, 1<<32-1, 1<<32, 1<<48, 3<<48, 1<<62, 1<<63-1, 1<<63, 1<<63+1, top-1, top)
	n := len(rising)
	for step := range n { // n is a prime: each step goes through all
		x := New()
		made := map[api.Pixel]int{}
		for i := range n {
			at := n - 1 - i // falling
			if step > 0 {
				at = i * step % n
			}
			made[rising[at]] = x.Len()
			put(t, x, word(rising[at]))
		}
		if kids := x.Kids(0); !slices.Equal(kids, rising) {
			t.Errorf("step %d: %v", step, kids)
		}
		for p, want := range made {
			if child := x.Child(0, p); child != want {
				t.Errorf("step %d: Child(0, %d) = %d, not %d", step, p, child, want)
			}
		}
		for _, p := range word(3, 257, 1<<33, 1<<63-2, 1<<63+2, top-2) {
			if child := x.Child(0, p); child != -1 {
				t.Errorf("step %d: Child(0, %d) = %d", step, p, child)
			}
		}
	}
}

// One number may stand below many nodes.
func TestChildrenAreTheirParents(t *testing.T) {
	x := treeOf(t, word(1, 1, 1), word(2, 1), word(1, 2, 1), word(2, 2))
	for n, want := range []struct{ one, two int }{{1, 4}, {2, 6}, {3, -1}, {-1, -1}, {5, 8}, {-1, -1}, {7, -1}, {-1, -1}, {-1, -1}} {
		if one, two := x.Child(n, 1), x.Child(n, 2); one != want.one || two != want.two {
			t.Errorf("of %d: %d, %d, not %v", n, one, two, want)
		}
	}
}

// falling is a word of so many numbers, up to the last one.
func falling(count int, last api.Pixel) []api.Pixel {
	w := make([]api.Pixel, count)
	for i := range w {
		w[i] = last + api.Pixel(count-1-i)
	}
	return w
}

// full holds a tree of all nodes that there may be: it bears words of them, no other ones.
func full(t *testing.T, x *Tree, words int, known, unknown []api.Pixel) {
	t.Helper()
	if x.Len() != most {
		t.Fatalf("%d nodes", x.Len())
	}
	deep, count := x.Walk(known)
	if count != len(known) {
		t.Fatalf("%d of %d numbers are known", count, len(known))
	}
	before := x.Kids(deep)
	for range 2 {
		if i, e := x.Put(unknown); i != -1 || e != api.ErrFull {
			t.Errorf("one more: %d, %v", i, e)
		}
		if i, e := x.Put(append(slices.Clone(known), unknown...)); i != -1 || e != api.ErrFull {
			t.Errorf("one more below others: %d, %v", i, e)
		}
		if i, e := x.Put(nil); i != -1 || e != api.ErrArg {
			t.Errorf("none: %d, %v", i, e)
		}
	}
	if x.Len() != most || x.Word(words) != -1 || !slices.Equal(x.Kids(deep), before) || x.Child(0, unknown[0]) != -1 {
		t.Error("what is refused is done")
	}
	for range 2 {
		if i, e := x.Put(known); i != words || e != api.OK || x.Word(i) != deep || x.Len() != most {
			t.Errorf("a known one: %d, not %d, %v", i, words, e)
		}
		words++
	}
	nowhere(t, x, most, words)
}

func TestFullOfOneWord(t *testing.T) {
	x := New()
	w := falling(most, 7)
	if i, e := x.Put(w); i != -1 || e != api.ErrFull || x.Len() != 1 || len(x.Kids(0)) != 0 || x.Word(0) != -1 {
		t.Errorf("a word of all nodes: %d, %v, %d nodes", i, e, x.Len())
	}
	w = w[:most-1]
	if i, e := x.Put(w); i != 0 || e != api.OK {
		t.Errorf("a word of all nodes but the root: %d, %v", i, e)
	}
	if x.Depth(most-1) != most-1 || x.Parent(most-1) != most-2 || x.Word(0) != most-1 || !slices.Equal(x.Path(most-1), w) {
		t.Error("the deepest node is another one")
	}
	full(t, x, 1, w, word(1))
	full(t, x, 3, w[:most/2], word(1, 2))
	at := 0
	for n, up := range x.Levels() {
		if at++; n != at || up != at-1 {
			t.Fatalf("the level %d: %d of %d", at, n, up)
		}
	}
	if at != most-1 {
		t.Errorf("%d levels", at)
	}
}

func TestFullOfManyWords(t *testing.T) {
	x := New()
	for i := range most - 1 {
		if got, e := x.Put(word(api.Pixel(2 * i))); got != i || e != api.OK {
			t.Fatalf("Put of the word %d: %d, %v", i, got, e)
		}
	}
	for i, p := range x.Kids(0) {
		if p != api.Pixel(2*i) || x.Child(0, p) != i+1 || x.Child(0, p+1) != -1 {
			t.Fatalf("the child %d is of %d", i, p)
		}
	}
	full(t, x, most-1, word(2*(most-2)), word(1))
}

// Near its end a tree bears what just fits, whole, and nothing of what does not.
func TestAlmostFull(t *testing.T) {
	x := treeOf(t, falling(most-4, 0)) // three more may be
	for i, c := range []struct {
		w []api.Pixel
		e api.Errno
		n int
	}{
		{falling(4, most), api.ErrFull, most - 3},
		{falling(most, most), api.ErrFull, most - 3},
		{falling(most-4, 0), api.OK, most - 3},
		{append(falling(most-4, 0)[:9], 1, 2, 3, 4), api.ErrFull, most - 3},
		{append(falling(most-4, 0)[:9], 1, 2), api.OK, most - 1},
		{append(falling(most-4, 0)[:9], 1, 3, 4), api.ErrFull, most - 1},
		{append(falling(most-4, 0)[:9], 1, 3), api.OK, most},
		{append(falling(most-4, 0)[:9], 1, 4), api.ErrFull, most},
		{append(falling(most-4, 0)[:9], 1, 3), api.OK, most},
	} {
		if _, e := x.Put(c.w); e != c.e || x.Len() != c.n {
			t.Errorf("%d: %v, %d nodes, not %v, %d", i, e, x.Len(), c.e, c.n)
		}
	}
	ninth, _ := x.Walk(falling(most-4, 0)[:9])
	if kids := x.Kids(x.Child(ninth, 1)); !slices.Equal(kids, word(2, 3)) {
		t.Errorf("what was refused left %v", kids)
	}
	if len(x.Kids(0)) != 1 || x.Word(3) != most-1 || x.Word(4) != most-1 || x.Word(5) != -1 {
		t.Error("what was refused left something")
	}
}

// P12.2

func TestWalk(t *testing.T) {
	x := treeOf(t, word(5, 2), word(5, 9, 1), word(3))
	for _, c := range []struct {
		w    []api.Pixel
		n, k int
	}{
		{nil, 0, 0}, {word(), 0, 0}, {word(2), 0, 0}, {word(2, 5, 2), 0, 0}, {word(0), 0, 0}, {word(top), 0, 0},
		{word(5), 1, 1}, {word(5, 5), 1, 1}, {word(5, 1), 1, 1}, {word(5, 2), 2, 2}, {word(5, 2, 5, 2), 2, 2}, {word(5, 9), 3, 2},
		{word(5, 9, 1), 4, 3}, {word(5, 9, 1, 1), 4, 3}, {word(5, 9, 2, 1), 3, 2}, {word(3), 5, 1}, {word(3, 3), 5, 1}, {word(3, 5), 5, 1},
	} {
		if n, k := x.Walk(c.w); n != c.n || k != c.k {
			t.Errorf("Walk(%v) = %d, %d, not %d, %d", c.w, n, k, c.n, c.k)
		}
	}
	if x.Len() != 6 {
		t.Error("a walk made nodes")
	}
}

// By depth first, then by number, whichever word made a node.
func TestLevels(t *testing.T) {
	for _, c := range []struct {
		words [][]api.Pixel
		want  [][2]int
	}{
		{nil, nil},
		{[][]api.Pixel{{1}}, [][2]int{{1, 0}}},
		{[][]api.Pixel{{9}, {8}, {7}}, [][2]int{{1, 0}, {2, 0}, {3, 0}}},
		{[][]api.Pixel{{9, 1}, {8, 1}}, [][2]int{{1, 0}, {3, 0}, {2, 1}, {4, 3}}},
		{[][]api.Pixel{{9}, {8, 1}, {9, 1}}, [][2]int{{1, 0}, {2, 0}, {3, 2}, {4, 1}}}, // the second one's child ahead of the first one's
		{[][]api.Pixel{{1, 2, 3}, {4}, {1, 5}, {4, 6, 7}, {8}}, [][2]int{{1, 0}, {4, 0}, {8, 0}, {2, 1}, {5, 1}, {6, 4}, {3, 2}, {7, 6}}},
	} {
		if l := levelsOf(treeOf(t, c.words...)); !slices.Equal(l, c.want) {
			t.Errorf("%v: %v, not %v", c.words, l, c.want)
		}
	}
}

func TestLevelsLeftAndToldAgain(t *testing.T) {
	words := mixed(20, 5, 3, 1)
	x := treeOf(t, words...)
	want := modelOf(words...).levels()
	levels := x.Levels()
	for stop := range len(want) {
		var l [][2]int
		for n, up := range levels {
			if l = append(l, [2]int{n, up}); len(l) > stop {
				break
			}
		}
		if !slices.Equal(l, want[:stop+1]) {
			t.Errorf("left behind %d: %v", stop, l)
		}
	}
	var outer [][2]int
	for n, up := range levels {
		outer = append(outer, [2]int{n, up})
		if inner := levelsOf(x); !slices.Equal(inner, want) {
			t.Errorf("within another one: %v", inner)
		}
		var again [][2]int
		for n, up := range levels {
			again = append(again, [2]int{n, up})
		}
		if !slices.Equal(again, want) {
			t.Errorf("within itself: %v", again)
		}
	}
	if !slices.Equal(outer, want) {
		t.Errorf("around others: %v", outer)
	}
}

// They are of the tree as it was when it was asked.
func TestLevelsAsTheyWereAsked(t *testing.T) {
	x := treeOf(t, word(1, 2))
	levels := x.Levels()
	put(t, x, word(3), word(1, 4))
	var l [][2]int
	for n, up := range levels {
		l = append(l, [2]int{n, up})
		put(t, x, word(5, api.Pixel(n)))
	}
	if want := [][2]int{{1, 0}, {2, 1}}; !slices.Equal(l, want) {
		t.Errorf("%v, not %v", l, want)
	}
	if want := modelOf(word(1, 2), word(3), word(1, 4), word(5, 1), word(5, 2)).levels(); !slices.Equal(levelsOf(x), want) {
		t.Errorf("%v, not %v", levelsOf(x), want)
	}
}

// P12.3

func TestWordEndsWhereItsWalkDoes(t *testing.T) {
	for seed := range 9 {
		words := mixed(200, 6, 2+seed, 50+seed)
		x := New()
		for i, w := range words {
			put(t, x, w)
			for j, v := range words[:i+1] {
				n, k := x.Walk(v)
				if x.Word(j) != n || k != len(v) || x.Depth(n) != k || !slices.Contains(x.Words(n), j) || !slices.Equal(x.Path(n), v) {
					t.Fatalf("%v ends at %d, its walk at %d, behind %d", v, x.Word(j), n, k)
				}
			}
		}
	}
}

// R4, R5

// overwrite overwrites all of a list, and the room behind it.
func overwrite[T int | api.Pixel](l []T) {
	l = l[:cap(l)]
	for i := range l {
		l[i] = 99
	}
}

func TestWhatIsHandedInIsNotKept(t *testing.T) {
	x, m := New(), modelOf()
	for _, w := range mixed(40, 6, 4, 3) {
		room := append(slices.Clone(w), 77, 78, 79)
		was := slices.Clone(room)
		put(t, x, room[:len(w)])
		x.Walk(room[:len(w)])
		if !slices.Equal(room, was) {
			t.Errorf("%v became %v", was, room)
		}
		overwrite(room)
		m.put(w)
		stands(t, x, m)
	}
}

func TestWhatIsAnsweredIsNew(t *testing.T) {
	words := append(mixed(40, 5, 4, 4), mixed(40, 2, 2, 5)...)
	x, m := New(), modelOf()
	for _, w := range words {
		put(t, x, w)
		m.put(w)
		for n := range x.Len() {
			path, kids, ends := x.Path(n), x.Kids(n), x.Words(n)
			overwrite(x.Path(n))
			overwrite(x.Kids(n))
			overwrite(x.Words(n))
			if !slices.Equal(path, m.nodes[n]) || !slices.Equal(kids, m.kids(n)) || !slices.Equal(ends, m.ends(n)) {
				t.Fatalf("%v, %v, %v, of %v, share with other answers", path, kids, ends, m.nodes[n])
			}
		}
	}
	stands(t, x, m)
}

// What was answered stays as it was, whatever is put behind it.
func TestAnswersStay(t *testing.T) {
	x := treeOf(t, word(1, 2), word(1, 4), word(1))
	kids, ends, path := x.Kids(1), x.Words(1), x.Path(3)
	put(t, x, word(1), word(1, 3), word(1, 0), word(1, 5), word(1, 4, 4))
	if !slices.Equal(kids, word(2, 4)) || !slices.Equal(ends, []int{2}) || !slices.Equal(path, word(1, 4)) {
		t.Errorf("became %v, %v, %v", kids, ends, path)
	}
}

func TestTreesAreTheirOwn(t *testing.T) {
	a, b := New(), New()
	m, o := modelOf(), modelOf()
	for i, w := range mixed(40, 5, 3, 6) {
		if i%3 == 0 {
			put(t, b, w)
			o.put(w)
		} else {
			put(t, a, w)
			m.put(w)
		}
		stands(t, a, m)
		stands(t, b, o)
	}
}
