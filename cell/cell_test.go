package cell_test

import (
	"math"
	"math/rand"
	"slices"
	"testing"

	"besom/api"
	"besom/cell"
)

// most: how many touches are written down, by the chapter.
const most = 100000

var (
	badWorkers = []int{-1, 64, 65, -64, 1 << 32, math.MinInt, math.MaxInt}
	edgeWords  = []int{0, 1, -1, 5, 1 << 32, -1 << 32, math.MaxInt, math.MinInt, math.MaxInt - 1, math.MinInt + 1}
)

func cells(t *testing.T, many int) *cell.Cells {
	t.Helper()
	c, e := cell.New(many)
	if c == nil || e != api.OK {
		t.Fatalf("New(%d): %d", many, e)
	}
	return c
}

// wantCells: all that cells tell of themselves.
func wantCells(t *testing.T, what string, c *cell.Cells, words []int, log []cell.Touch) {
	t.Helper()
	if c.Len() != len(words) {
		t.Errorf("%s: Len: %d, want %d", what, c.Len(), len(words))
	}
	if got := c.Words(); !slices.Equal(got, words) {
		t.Errorf("%s: Words: %v, want %v", what, got, words)
	}
	wantLog(t, what, c, log)
}

func wantLog(t *testing.T, what string, c *cell.Cells, log []cell.Touch) {
	t.Helper()
	got := c.Log()
	if len(got) != len(log) {
		t.Fatalf("%s: Log: %d touches, want %d", what, len(got), len(log))
	}
	for i, x := range got {
		if x != log[i] {
			t.Fatalf("%s: Log: touch %d is %v, want %v", what, i, x, log[i])
		}
	}
}

// P3.1: New, Len, and cells that nobody touched.
func TestNew(t *testing.T) {
	for _, n := range []int{1, 2, 64, 65535, 65536} {
		wantCells(t, "New", cells(t, n), make([]int, n), nil)
	}
	for _, n := range []int{0, -1, 65537, 1 << 32, 1<<32 + 1, math.MinInt, math.MaxInt} {
		if c, e := cell.New(n); c != nil || e != api.ErrRange {
			t.Errorf("New(%d): %v, %d, want nil, ErrRange", n, c, e)
		}
	}
}

// P3.1: each call by itself, its answer, its word and its touch.
func TestLoad(t *testing.T) {
	c := cells(t, 3)
	c.Store(2, 1, -7)
	c.Clear()
	for _, x := range []struct{ place, want int }{{0, 0}, {1, -7}, {2, 0}} {
		if n, e := c.Load(5, x.place); n != x.want || e != api.OK {
			t.Errorf("Load(5, %d): %d, %d, want %d", x.place, n, e, x.want)
		}
	}
	wantCells(t, "Load", c, []int{0, -7, 0}, []cell.Touch{{5, 0, 1, 0, 0}, {5, 1, 1, -7, -7}, {5, 2, 1, 0, 0}})
}

func TestStore(t *testing.T) {
	c := cells(t, 2)
	for _, word := range []int{4, 4, -9, 0} {
		if e := c.Store(7, 1, word); e != api.OK {
			t.Errorf("Store(7, 1, %d): %d", word, e)
		}
	}
	if e := c.Store(8, 0, 6); e != api.OK {
		t.Errorf("Store(8, 0, 6): %d", e)
	}
	wantCells(t, "Store", c, []int{6, 0}, []cell.Touch{
		{7, 1, 2, 0, 4}, {7, 1, 2, 4, 4}, {7, 1, 2, 4, -9}, {7, 1, 2, -9, 0}, {8, 0, 2, 0, 6},
	})
}

// A swap from a word that isn't there is a touch that changes nothing.
func TestSwap(t *testing.T) {
	c := cells(t, 2)
	for _, x := range []struct {
		old, word int
		want      api.Errno
	}{
		{0, 5, api.OK},
		{0, 6, api.ErrLost},  // it was 0 once
		{6, 5, api.ErrLost},  // it is what it would become
		{-5, 7, api.ErrLost}, // another sign
		{5, 5, api.OK},       // it becomes what it is
		{5, 0, api.OK},
		{5, 1, api.ErrLost},
		{1, 1, api.ErrLost},
		{0, -3, api.OK},
		{-3, 1, api.OK},
		{1<<32 + 1, 9, api.ErrLost}, // the lower half is alike
	} {
		if e := c.Swap(3, 1, x.old, x.word); e != x.want {
			t.Errorf("Swap(3, 1, %d, %d): %d, want %d", x.old, x.word, e, x.want)
		}
	}
	wantCells(t, "Swap", c, []int{0, 1}, []cell.Touch{
		{3, 1, 3, 0, 5}, {3, 1, 3, 5, 5}, {3, 1, 3, 5, 5}, {3, 1, 3, 5, 5}, {3, 1, 3, 5, 5}, {3, 1, 3, 5, 0},
		{3, 1, 3, 0, 0}, {3, 1, 3, 0, 0}, {3, 1, 3, 0, -3}, {3, 1, 3, -3, 1}, {3, 1, 3, 1, 1},
	})
}

func TestAdd(t *testing.T) {
	c := cells(t, 2)
	for _, x := range []struct{ by, want int }{{5, 0}, {0, 5}, {-7, 5}, {2, -2}, {1, 0}} {
		if n, e := c.Add(1, 0, x.by); n != x.want || e != api.OK {
			t.Errorf("Add(1, 0, %d): %d, %d, want %d", x.by, n, e, x.want)
		}
	}
	wantCells(t, "Add", c, []int{1, 0}, []cell.Touch{
		{1, 0, 4, 0, 5}, {1, 0, 4, 5, 5}, {1, 0, 4, 5, -2}, {1, 0, 4, -2, 0}, {1, 0, 4, 0, 1},
	})
}

// Sums go around, both ways.
func TestAddGoesAround(t *testing.T) {
	for _, x := range []struct{ was, by, is int }{
		{math.MaxInt, 1, math.MinInt},
		{math.MaxInt, math.MaxInt, -2},
		{math.MinInt, -1, math.MaxInt},
		{math.MinInt, math.MinInt, 0},
		{math.MaxInt, math.MinInt, -1},
		{math.MinInt, math.MaxInt, -1},
		{math.MaxInt, 0, math.MaxInt},
		{math.MaxInt - 1, 1, math.MaxInt},
		{math.MinInt + 1, -1, math.MinInt},
		{math.MaxInt32, 1, 1 << 31},
		{math.MaxUint32, 1, 1 << 32},
	} {
		c := cells(t, 1)
		c.Store(0, 0, x.was)
		c.Clear()
		if n, e := c.Add(0, 0, x.by); n != x.was || e != api.OK {
			t.Errorf("Add of %d to %d: %d, %d", x.by, x.was, n, e)
		}
		wantCells(t, "Add around", c, []int{x.is}, []cell.Touch{{0, 0, 4, x.was, x.is}})
	}
}

// The first and the last cell and worker, of the fewest and the most cells.
func TestEdges(t *testing.T) {
	for _, many := range []int{1, 2, 65536} {
		c := cells(t, many)
		words := make([]int, many)
		var log []cell.Touch
		for _, who := range []int{0, 63} {
			for _, place := range []int{0, many - 1} {
				was := words[place]
				if e := c.Store(who, place, 1000+who); e != api.OK {
					t.Fatalf("Store(%d, %d): %d", who, place, e)
				}
				if n, e := c.Load(who, place); n != 1000+who || e != api.OK {
					t.Fatalf("Load(%d, %d): %d, %d", who, place, n, e)
				}
				if e := c.Swap(who, place, 1000+who, -who); e != api.OK {
					t.Fatalf("Swap(%d, %d): %d", who, place, e)
				}
				if n, e := c.Add(who, place, 3); n != -who || e != api.OK {
					t.Fatalf("Add(%d, %d): %d, %d", who, place, n, e)
				}
				words[place] = 3 - who
				log = append(log,
					cell.Touch{Who: who, Place: place, What: 2, Was: was, Is: 1000 + who},
					cell.Touch{Who: who, Place: place, What: 1, Was: 1000 + who, Is: 1000 + who},
					cell.Touch{Who: who, Place: place, What: 3, Was: 1000 + who, Is: -who},
					cell.Touch{Who: who, Place: place, What: 4, Was: -who, Is: 3 - who})
			}
		}
		wantCells(t, "edges", c, words, log)
	}
}

// wantRefused: none of the four calls goes.
func wantRefused(t *testing.T, c *cell.Cells, who, place int) {
	t.Helper()
	if n, e := c.Load(who, place); n != 0 || e != api.ErrRange {
		t.Errorf("Load(%d, %d): %d, %d, want 0, ErrRange", who, place, n, e)
	}
	if e := c.Store(who, place, 77); e != api.ErrRange {
		t.Errorf("Store(%d, %d): %d, want ErrRange", who, place, e)
	}
	for _, old := range []int{0, 4} {
		if e := c.Swap(who, place, old, 77); e != api.ErrRange {
			t.Errorf("Swap(%d, %d, %d): %d, want ErrRange", who, place, old, e)
		}
	}
	if n, e := c.Add(who, place, 77); n != 0 || e != api.ErrRange {
		t.Errorf("Add(%d, %d): %d, %d, want 0, ErrRange", who, place, n, e)
	}
}

// Workers and places that there aren't: ErrRange, no touch, and nothing is changed.
func TestRefused(t *testing.T) {
	for _, many := range []int{1, 3, 65536} {
		c := cells(t, many)
		words := slices.Repeat([]int{4}, many)
		for place := range many {
			c.Store(0, place, 4)
		}
		c.Clear()
		c.Load(9, 0)
		badPlaces := []int{-1, many, many + 1, -many, 1 << 32, math.MinInt, math.MaxInt}
		for _, who := range badWorkers {
			for _, place := range append([]int{0, many - 1}, badPlaces...) {
				wantRefused(t, c, who, place)
			}
		}
		for _, place := range badPlaces {
			wantRefused(t, c, 0, place)
			wantRefused(t, c, 63, place)
		}
		wantCells(t, "refused", c, words, []cell.Touch{{9, 0, 1, 4, 4}})
	}
}

// Clear: no touch is left, the words are, and what comes then is written down anew.
func TestClear(t *testing.T) {
	c := cells(t, 2)
	c.Clear()
	wantCells(t, "Clear of none", c, []int{0, 0}, nil)
	c.Store(1, 0, 8)
	c.Add(2, 1, 3)
	c.Clear()
	wantCells(t, "Clear", c, []int{8, 3}, nil)
	c.Clear()
	c.Swap(4, 0, 8, 1)
	wantCells(t, "behind Clear", c, []int{1, 3}, []cell.Touch{{4, 0, 3, 8, 1}})
}

// Of more than 100,000 touches the last ones are told, in order; also when it was gone around several times, and behind Clear.
func TestManyTouches(t *testing.T) {
	c := cells(t, 3)
	var log []cell.Touch
	words := make([]int, 3)
	add := func(n int) {
		for i := range n {
			who, place := i%64, i%3
			was, e := c.Add(who, place, i)
			if was != words[place] || e != api.OK {
				t.Fatalf("Add(%d, %d, %d): %d, %d, want %d", who, place, i, was, e, words[place])
			}
			words[place] += i
			log = append(log, cell.Touch{Who: who, Place: place, What: 4, Was: was, Is: words[place]})
		}
	}
	want := func(what string) {
		t.Helper()
		wantCells(t, what, c, words, log[max(0, len(log)-most):])
	}
	for range 2 {
		for _, n := range []int{most - 1, 1, 1, 1, most - 3, 1, 1, most / 2, 2*most + 17} {
			add(n)
			want("many touches")
		}
		c.Clear()
		log = nil
		want("many touches, cleared")
		add(5)
		want("a few behind many")
		c.Clear()
		log = nil
	}
}

// Refused calls put no touch out of the list when it is full; lost swaps do.
func TestFullLog(t *testing.T) {
	c := cells(t, 2)
	c.Store(1, 1, 6)
	for range most - 1 {
		c.Load(2, 0)
	}
	log := c.Log()
	wantRefused(t, c, 64, 0)
	wantRefused(t, c, 0, 2)
	c.Words()
	c.Len()
	if log[0] != (cell.Touch{Who: 1, Place: 1, What: 2, Was: 0, Is: 6}) {
		t.Errorf("the oldest of %d: %v", most, log[0])
	}
	wantCells(t, "refused at a full list", c, []int{0, 6}, log)
	if e := c.Swap(3, 1, 5, 9); e != api.ErrLost {
		t.Errorf("Swap: %d, want ErrLost", e)
	}
	wantCells(t, "lost at a full list", c, []int{0, 6}, append(log[1:], cell.Touch{Who: 3, Place: 1, What: 3, Was: 6, Is: 6}))
}

// R6: lists that are answered are new memory, spare room too, and stay as they are.
func TestAnswersAreNew(t *testing.T) {
	for _, n := range []int{3, most + 3} {
		c := cells(t, 2)
		for range n {
			c.Add(1, 0, 1)
		}
		words, log := c.Words(), c.Log()
		keptWords, keptLog := slices.Clone(words), slices.Clone(log)
		c.Store(2, 0, -1)
		c.Clear()
		if !slices.Equal(words, keptWords) || !slices.Equal(log, keptLog) {
			t.Errorf("what was answered changed with the cells")
		}
		c = cells(t, 2)
		for range n {
			c.Add(1, 0, 1)
		}
		w, l := c.Words(), c.Log()
		w, l = w[:cap(w)], l[:cap(l)]
		for i := range w {
			w[i] = 99
		}
		for i := range l {
			l[i] = cell.Touch{Who: 9, Place: 9, What: 9, Was: 9, Is: 9}
		}
		wantCells(t, "answers written over", c, keptWords, keptLog)
		c.Add(1, 0, 1)
		for i := range l {
			if l[i].Who != 9 {
				t.Fatalf("touch %d was written into an answer", i)
			}
		}
	}
}

// R8: cells know nothing of each other.
func TestApart(t *testing.T) {
	a, b := cells(t, 2), cells(t, 2)
	a.Store(1, 0, 5)
	b.Add(2, 1, 6)
	wantCells(t, "one", a, []int{5, 0}, []cell.Touch{{1, 0, 2, 0, 5}})
	wantCells(t, "other", b, []int{0, 6}, []cell.Touch{{2, 1, 4, 0, 6}})
	a.Clear()
	wantLog(t, "other, one cleared", b, []cell.Touch{{2, 1, 4, 0, 6}})
}

// model: the chapter's words, told plainly, apart from the program.
type model struct {
	words []int
	log   []cell.Touch
}

func (m *model) call(what, who, place, old, word int) (int, api.Errno) {
	if who < 0 || who > 63 || place < 0 || place >= len(m.words) {
		return 0, api.ErrRange
	}
	was, is, answer, e := m.words[place], 0, 0, api.OK
	switch what {
	case 1:
		is, answer = was, was
	case 2:
		is = word
	case 3:
		is = word
		if was != old {
			is, e = was, api.ErrLost
		}
	case 4:
		is, answer = int(uint64(was)+uint64(word)), was
	}
	m.words[place] = is
	m.log = append(m.log, cell.Touch{Who: who, Place: place, What: what, Was: was, Is: is})
	return answer, e
}

func call(c *cell.Cells, what, who, place, old, word int) (int, api.Errno) {
	switch what {
	case 1:
		return c.Load(who, place)
	case 2:
		return 0, c.Store(who, place, word)
	case 3:
		return 0, c.Swap(who, place, old, word)
	}
	return c.Add(who, place, word)
}

// P3.1: many calls of all kinds, right and wrong, against the model.
func TestAgainstModel(t *testing.T) {
	r := rand.New(rand.NewSource(5))
	seen := map[api.Errno]int{}
	for range 200 {
		many := 1 + r.Intn(4)
		c, m := cells(t, many), &model{words: make([]int, many)}
		for range 200 {
			what, who, place := 1+r.Intn(4), r.Intn(68)-2, r.Intn(many+2)-1
			old, word := edgeWords[r.Intn(len(edgeWords))], edgeWords[r.Intn(len(edgeWords))]
			if place >= 0 && place < many && r.Intn(2) == 0 {
				old = m.words[place]
			}
			n, e := call(c, what, who, place, old, word)
			if wantN, wantE := m.call(what, who, place, old, word); n != wantN || e != wantE {
				t.Fatalf("call %d of (%d, %d, %d, %d): %d, %d, want %d, %d", what, who, place, old, word, n, e, wantN, wantE)
			}
			seen[e]++
			if r.Intn(100) == 0 {
				c.Clear()
				m.log = nil
			}
		}
		wantCells(t, "model", c, m.words, m.log)
	}
	for _, e := range []api.Errno{api.OK, api.ErrRange, api.ErrLost} {
		if seen[e] < 100 {
			t.Errorf("only %d calls answered %d", seen[e], e)
		}
	}
}
