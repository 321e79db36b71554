package spill_test

import (
	"math"
	"slices"
	"testing"

	"besom/api"
	"besom/cell"
	"besom/spill"
)

// What a touch is, by chapter 3.
const (
	load  = 1
	store = 2
	swap  = 3
)

// The cells, by chapter 8; behind them stand the words.
const (
	lock  = 0
	many  = 1
	words = 2
)

// touch: short for one.
func touch(who, place, what, was, is int) cell.Touch {
	return cell.Touch{Who: who, Place: place, What: what, Was: was, Is: is}
}

func newSpill(t *testing.T, room int) *spill.Spill {
	t.Helper()
	s, e := spill.New(room)
	if s == nil || e != api.OK {
		t.Fatalf("New(%d): %d", room, e)
	}
	return s
}

// filled: a spill into which so many words were put: 10, 11, and so on.
func filled(t *testing.T, room, many int) *spill.Spill {
	t.Helper()
	s := newSpill(t, room)
	for i := range many {
		wantEnd(t, "Put", put(t, s, i%64, 10+i), 5, 0, api.OK)
	}
	return s
}

func put(t *testing.T, s *spill.Spill, who, word int) *spill.Call {
	t.Helper()
	c, e := s.Put(who, word)
	if c == nil || e != api.OK {
		t.Fatalf("Put(%d, %d): %d", who, word, e)
	}
	return c
}

func take(t *testing.T, s *spill.Spill, who int) *spill.Call {
	t.Helper()
	c, e := s.Take(who)
	if c == nil || e != api.OK {
		t.Fatalf("Take(%d): %d", who, e)
	}
	return c
}

// wantEnd: a call goes on up to its end, and is done behind just so many steps more, with that word and error.
func wantEnd(t *testing.T, what string, c *spill.Call, steps, word int, errno api.Errno) {
	t.Helper()
	for i := range steps {
		wantOpen(t, what, c)
		if done := c.Step(); done != (i == steps-1) {
			t.Fatalf("%s: step %d of %d: done is %t", what, i+1, steps, done)
		}
	}
	wantResult(t, what, c, word, errno)
}

func wantOpen(t *testing.T, what string, c *spill.Call) {
	t.Helper()
	if c.Done() {
		t.Fatalf("%s: done too early", what)
	}
	if w, e := c.Result(); w != 0 || e != api.ErrOrder {
		t.Fatalf("%s: Result ahead of its end: %d, %d", what, w, e)
	}
}

func wantResult(t *testing.T, what string, c *spill.Call, word int, errno api.Errno) {
	t.Helper()
	if !c.Done() {
		t.Fatalf("%s: isn't done", what)
	}
	if w, e := c.Result(); w != word || e != errno {
		t.Fatalf("%s: Result: %d, %d, want %d, %d", what, w, e, word, errno)
	}
}

// wantTouches: a call's next steps, each of one touch.
func wantTouches(t *testing.T, what string, s *spill.Spill, c *spill.Call, touches ...cell.Touch) {
	t.Helper()
	for i, want := range touches {
		wantOpen(t, what, c)
		s.Cells().Clear()
		done := c.Step()
		if got := s.Cells().Log(); len(got) != 1 || got[0] != want {
			t.Fatalf("%s: step %d of these: touches %v, want %v", what, i+1, got, want)
		}
		if done != c.Done() {
			t.Fatalf("%s: Step says %t, Done %t", what, done, c.Done())
		}
	}
}

// wantDone: a call is done with that, and stays so without a touch, however often it is told to step.
func wantDone(t *testing.T, what string, s *spill.Spill, c *spill.Call, word int, errno api.Errno) {
	t.Helper()
	wantResult(t, what, c, word, errno)
	was := s.Cells().Words()
	s.Cells().Clear()
	for range 6 {
		if !c.Step() {
			t.Errorf("%s: Step of a call that is done: false", what)
		}
	}
	wantResult(t, what+", stepped once more", c, word, errno)
	if l := s.Cells().Log(); len(l) != 0 || !slices.Equal(s.Cells().Words(), was) {
		t.Errorf("%s: a call that is done goes on: %v", what, l)
	}
}

// wantWords: these stand in a spill, and asking for them is no touch.
func wantWords(t *testing.T, what string, s *spill.Spill, want ...int) {
	t.Helper()
	was := len(s.Cells().Log())
	if got := s.Words(); !slices.Equal(got, want) {
		t.Errorf("%s: Words: %v, want %v", what, got, want)
	}
	if len(s.Cells().Log()) != was {
		t.Errorf("%s: Words touched a cell", what)
	}
}

func wantCells(t *testing.T, what string, s *spill.Spill, want ...int) {
	t.Helper()
	if got := s.Cells().Words(); !slices.Equal(got, want) {
		t.Errorf("%s: cells: %v, want %v", what, got, want)
	}
}

// P8.1: New, at the least and the greatest room, and beside them.
func TestNew(t *testing.T) {
	for _, room := range []int{1, 2, 3, 65533, 65534} {
		s := newSpill(t, room)
		wantCells(t, "New", s, make([]int, room+2)...)
		wantWords(t, "New", s)
		if l := s.Cells().Log(); len(l) != 0 {
			t.Errorf("New(%d): touches %v", room, l)
		}
		if s.Cells() != s.Cells() {
			t.Errorf("New(%d): Cells answers others each time", room)
		}
	}
	for _, room := range []int{0, -1, -2, -3, 65535, 65536, 65537, 1<<32 + 1, math.MinInt, math.MaxInt, math.MaxInt - 1} {
		if s, e := spill.New(room); s != nil || e != api.ErrRange {
			t.Errorf("New(%d): %v, %d, want nil, ErrRange", room, s, e)
		}
	}
}

// P8.1: who may put and take.
func TestWho(t *testing.T) {
	s := filled(t, 4, 2)
	s.Cells().Clear()
	was := s.Cells().Words()
	for _, who := range []int{-1, 64, 65, -64, 1 << 32, 1<<32 + 1, math.MinInt, math.MaxInt} {
		if c, e := s.Put(who, 5); c != nil || e != api.ErrRange {
			t.Errorf("Put(%d, 5): %v, %d, want nil, ErrRange", who, c, e)
		}
		if c, e := s.Take(who); c != nil || e != api.ErrRange {
			t.Errorf("Take(%d): %v, %d, want nil, ErrRange", who, c, e)
		}
	}
	wantCells(t, "refused", s, was...)
	if l := s.Cells().Log(); len(l) != 0 {
		t.Errorf("refused: touches %v", l)
	}
	for who := range 64 {
		c := put(t, s, who, 100+who)
		wantTouches(t, "Put", s, c, touch(who, lock, swap, 0, who+1))
		wantEnd(t, "Put", c, 4, 0, api.OK)
		c = take(t, s, who)
		wantTouches(t, "Take", s, c, touch(who, lock, swap, 0, who+1))
		wantEnd(t, "Take", c, 4, 100+who, api.OK)
	}
}

// A call that is begun has touched nothing, and isn't done.
func TestBegun(t *testing.T) {
	s := filled(t, 3, 2)
	s.Cells().Clear()
	for _, c := range []*spill.Call{put(t, s, 0, 5), take(t, s, 0), put(t, s, 63, 5), take(t, s, 63)} {
		wantOpen(t, "begun", c)
	}
	if l := s.Cells().Log(); len(l) != 0 {
		t.Errorf("begun: touches %v", l)
	}
	wantWords(t, "begun", s, 10, 11)
}

// P8.1: each step's one touch, of a put, with Words behind each.
func TestPutSteps(t *testing.T) {
	s := newSpill(t, 2)
	c := put(t, s, 7, 5)
	wantTouches(t, "Put 5", s, c, touch(7, lock, swap, 0, 8))
	wantWords(t, "locked", s)
	wantTouches(t, "Put 5", s, c, touch(7, many, load, 0, 0))
	wantWords(t, "loaded", s)
	wantTouches(t, "Put 5", s, c, touch(7, words, store, 0, 5))
	wantWords(t, "a word that isn't counted yet", s)
	wantCells(t, "a word that isn't counted yet", s, 8, 0, 5, 0)
	wantTouches(t, "Put 5", s, c, touch(7, many, store, 0, 1))
	wantWords(t, "counted", s, 5)
	wantTouches(t, "Put 5", s, c, touch(7, lock, store, 8, 0))
	wantDone(t, "Put 5", s, c, 0, api.OK)
	wantCells(t, "Put 5", s, 0, 1, 5, 0)
	c = put(t, s, 0, -6)
	wantTouches(t, "Put -6", s, c,
		touch(0, lock, swap, 0, 1), touch(0, many, load, 1, 1), touch(0, words+1, store, 0, -6), touch(0, many, store, 1, 2), touch(0, lock, store, 1, 0))
	wantDone(t, "Put -6", s, c, 0, api.OK)
	wantWords(t, "Put -6", s, 5, -6)
}

// P8.1: each step's one touch, of a put into a full spill: it gives the lock back, and has changed nothing.
func TestPutFull(t *testing.T) {
	s := filled(t, 2, 2)
	c := put(t, s, 63, 7)
	wantTouches(t, "Put 7", s, c, touch(63, lock, swap, 0, 64), touch(63, many, load, 2, 2))
	wantWords(t, "loaded", s, 10, 11)
	wantTouches(t, "Put 7", s, c, touch(63, lock, store, 64, 0))
	wantDone(t, "Put 7", s, c, 0, api.ErrFull)
	wantCells(t, "Put 7", s, 0, 2, 10, 11)
	wantEnd(t, "Put 8", put(t, s, 1, 8), 3, 0, api.ErrFull)
	wantEnd(t, "Take", take(t, s, 2), 5, 11, api.OK)
	wantEnd(t, "Put 9", put(t, s, 1, 9), 5, 0, api.OK)
	wantWords(t, "Put 9", s, 10, 9)
}

// P8.1: each step's one touch, of a take, with Words behind each.
func TestTakeSteps(t *testing.T) {
	s := filled(t, 3, 2)
	c := take(t, s, 4)
	wantTouches(t, "Take", s, c, touch(4, lock, swap, 0, 5), touch(4, many, load, 2, 2), touch(4, words+1, load, 11, 11))
	wantWords(t, "a word that still counts", s, 10, 11)
	wantTouches(t, "Take", s, c, touch(4, many, store, 2, 1))
	wantWords(t, "it counts no more", s, 10)
	wantTouches(t, "Take", s, c, touch(4, lock, store, 5, 0))
	wantDone(t, "Take", s, c, 11, api.OK)
	wantCells(t, "Take", s, 0, 1, 10, 11, 0)
	c = take(t, s, 0)
	wantTouches(t, "Take of the last", s, c,
		touch(0, lock, swap, 0, 1), touch(0, many, load, 1, 1), touch(0, words, load, 10, 10), touch(0, many, store, 1, 0), touch(0, lock, store, 1, 0))
	wantDone(t, "Take of the last", s, c, 10, api.OK)
	wantWords(t, "Take of the last", s)
}

// P8.1: each step's one touch, of a take of an empty spill: it gives the lock back, and has changed nothing.
func TestTakeEmpty(t *testing.T) {
	s := newSpill(t, 1)
	c := take(t, s, 63)
	wantTouches(t, "Take", s, c, touch(63, lock, swap, 0, 64), touch(63, many, load, 0, 0))
	wantWords(t, "loaded", s)
	wantTouches(t, "Take", s, c, touch(63, lock, store, 64, 0))
	wantDone(t, "Take", s, c, 0, api.ErrEmpty)
	wantCells(t, "Take", s, 0, 0, 0)
	wantEnd(t, "Take", take(t, s, 1), 3, 0, api.ErrEmpty)
	wantEnd(t, "Put", put(t, s, 1, 9), 5, 0, api.OK)
	wantEnd(t, "Take", take(t, s, 2), 5, 9, api.OK)
	wantEnd(t, "Take", take(t, s, 2), 3, 0, api.ErrEmpty)
	wantCells(t, "its old word stays in its cell", s, 0, 0, 9)
}

// P8.1: beside somebody else's lock a step is tried again, whichever step the other one is at, and changes nothing.
func TestBesideLock(t *testing.T) {
	for _, x := range []struct {
		filled, steps int
		holds         func(s *spill.Spill) *spill.Call
	}{
		{1, 5, func(s *spill.Spill) *spill.Call { return put(t, s, 3, 50) }},
		{2, 3, func(s *spill.Spill) *spill.Call { return put(t, s, 3, 50) }},
		{2, 5, func(s *spill.Spill) *spill.Call { return take(t, s, 3) }},
		{0, 3, func(s *spill.Spill) *spill.Call { return take(t, s, 3) }},
	} {
		s := filled(t, 2, x.filled)
		holds := x.holds(s)
		waits := []*spill.Call{put(t, s, 5, 60), take(t, s, 0), put(t, s, 3, 61)} // the last one is a second call of who has the lock
		for range x.steps - 1 {
			holds.Step()
			was, stands := s.Cells().Words(), s.Words()
			for range 3 {
				wantTouches(t, "Put beside a lock", s, waits[0], touch(5, lock, swap, 4, 4))
				wantTouches(t, "Take beside a lock", s, waits[1], touch(0, lock, swap, 4, 4))
				wantTouches(t, "Put beside a lock of its own", s, waits[2], touch(3, lock, swap, 4, 4))
			}
			wantCells(t, "beside a lock", s, was...)
			wantWords(t, "beside a lock", s, stands...)
		}
		wantOpen(t, "who has the lock", holds)
		if !holds.Step() {
			t.Fatal("who has the lock doesn't end")
		}
		wantTouches(t, "Take behind the lock", s, waits[1], touch(0, lock, swap, 0, 1))
		wantTouches(t, "Put beside the next lock", s, waits[0], touch(5, lock, swap, 1, 1))
	}
}

// A call that was tried in vain has as many steps as any other from its lock on.
func TestBehindVainSteps(t *testing.T) {
	s := newSpill(t, 2)
	a, b, c := put(t, s, 1, 4), take(t, s, 2), put(t, s, 3, 6)
	a.Step()
	for range 1000 {
		if b.Step() || c.Step() {
			t.Fatal("done beside a lock")
		}
	}
	wantEnd(t, "Put 4", a, 4, 0, api.OK)
	wantEnd(t, "Take", b, 5, 4, api.OK)
	wantEnd(t, "Put 6", c, 5, 0, api.OK)
	wantWords(t, "all done", s, 6)
}

// What is put last is taken first, at each kind of room, with the edges on both sides.
func TestLastFirst(t *testing.T) {
	for _, room := range []int{1, 2, 3, 7, 1000, 65533, 65534} {
		s := newSpill(t, room)
		for range 2 {
			wantEnd(t, "Take of none", take(t, s, 9), 3, 0, api.ErrEmpty)
			for i := range room {
				wantEnd(t, "Put", put(t, s, i%64, 10+i), 5, 0, api.OK)
			}
			wantEnd(t, "Put into a full one", put(t, s, 8, -1), 3, 0, api.ErrFull)
			stand := s.Words()
			if len(stand) != room || stand[0] != 10 || stand[room-1] != 10+room-1 {
				t.Fatalf("room %d: %d words stand there", room, len(stand))
			}
			for i := room - 1; i >= 0; i-- {
				wantEnd(t, "Take", take(t, s, (i+7)%64), 5, 10+i, api.OK)
			}
			wantEnd(t, "Take of none", take(t, s, 9), 3, 0, api.ErrEmpty)
			wantWords(t, "all taken", s)
		}
	}
}

// Puts and takes that go on one behind the other, held against a plain row.
func TestOneBehindTheOther(t *testing.T) {
	s := newSpill(t, 3)
	var row []int
	for i, way := range "ppptpptttpttpppptptttttp" {
		who := i % 64
		switch {
		case way == 'p' && len(row) == 3:
			wantEnd(t, "Put", put(t, s, who, 100+i), 3, 0, api.ErrFull)
		case way == 'p':
			wantEnd(t, "Put", put(t, s, who, 100+i), 5, 0, api.OK)
			row = append(row, 100+i)
		case len(row) == 0:
			wantEnd(t, "Take", take(t, s, who), 3, 0, api.ErrEmpty)
		default:
			wantEnd(t, "Take", take(t, s, who), 5, row[len(row)-1], api.OK)
			row = row[:len(row)-1]
		}
		wantWords(t, "one behind the other", s, row...)
		if l := s.Cells().Words()[lock]; l != 0 {
			t.Fatalf("the lock is %d behind a call's end", l)
		}
	}
}

// Words are what they are, whichever: also noughts, and several alike.
func TestAnyWord(t *testing.T) {
	s := newSpill(t, 8)
	odd := []int{0, -1, math.MaxInt, math.MinInt, 65536, 0, 7, 7}
	for _, w := range odd {
		wantEnd(t, "Put", put(t, s, 0, w), 5, 0, api.OK)
	}
	wantWords(t, "any", s, odd...)
	for i := len(odd) - 1; i >= 0; i-- {
		wantEnd(t, "Take", take(t, s, 4), 5, odd[i], api.OK)
	}
}

// R6: words that are answered are new memory, spare room too.
func TestWordsAreNew(t *testing.T) {
	s := filled(t, 5, 3)
	was, one, other := s.Cells().Words(), s.Words(), s.Words()
	if len(one) != cap(one) {
		t.Errorf("an answer of %d words has room for %d", len(one), cap(one))
	}
	for i := range one {
		one[i] = 99
	}
	wantCells(t, "an answer written over", s, was...)
	wantWords(t, "an answer written over", s, 10, 11, 12)
	wantEnd(t, "Take", take(t, s, 1), 5, 12, api.OK)
	wantEnd(t, "Put", put(t, s, 1, 14), 5, 0, api.OK)
	if !slices.Equal(other, []int{10, 11, 12}) {
		t.Errorf("an answer changed with the spill: %v", other)
	}
}

// R8: spills, and calls, know nothing of each other.
func TestApart(t *testing.T) {
	a, b := newSpill(t, 1), newSpill(t, 2)
	x, y := put(t, a, 1, 5), put(t, b, 2, 6)
	for range 5 {
		x.Step()
		y.Step()
	}
	wantCells(t, "one", a, 0, 1, 5)
	wantCells(t, "other", b, 0, 1, 6, 0)
	wantEnd(t, "Take", take(t, a, 2), 5, 5, api.OK)
	wantWords(t, "other", b, 6)
	wantResult(t, "Put", y, 0, api.OK)
}

// P7: the cells are handed out; whatever somebody stores there, calls end as soon as the lock is free, and none panics.
func TestOddCells(t *testing.T) {
	odd := []int{0, 1, 2, 3, 4, 5, -1, -2, -3, -4, 65535, 65536, 1 << 40, math.MaxInt, math.MaxInt - 1, math.MaxInt - 2, math.MinInt, math.MinInt + 1, math.MinInt + 2}
	for _, n := range odd {
		for kind := range 2 {
			s := filled(t, 3, 2)
			s.Cells().Store(0, many, n)
			if stand := s.Words(); len(stand) != min(max(n, 0), 3) {
				t.Fatalf("how many is %d: %d words", n, len(stand))
			}
			c := []*spill.Call{put(t, s, 1, 5), take(t, s, 1)}[kind]
			for range 5 {
				c.Step()
			}
			if !c.Done() {
				t.Fatalf("how many is %d: call %d doesn't end", n, kind)
			}
			s.Words()
		}
	}
	for _, who := range odd[1:] {
		s := filled(t, 3, 2)
		s.Cells().Store(0, lock, who)
		c := take(t, s, 1)
		for range 20 {
			wantTouches(t, "an odd lock", s, c, touch(1, lock, swap, who, who))
		}
		s.Cells().Store(0, lock, 0)
		wantEnd(t, "Take", c, 5, 11, api.OK)
	}
}
