package deque_test

import (
	"math"
	"slices"
	"testing"

	"besom/api"
	"besom/cell"
	"besom/deque"
)

// What a touch is, by chapter 3.
const (
	load  = 1
	store = 2
	swap  = 3
)

// The cells, by chapter 6; behind them stand the words.
const (
	bottom = 0
	top    = 1
	words  = 2
)

// touch: short for one.
func touch(who, place, what, was, is int) cell.Touch {
	return cell.Touch{Who: who, Place: place, What: what, Was: was, Is: is}
}

// topWord: place and 4,096 times tag.
func topWord(place, tag int) int { return place + 4096*tag }

func newDeque(t *testing.T, room int) *deque.Deque {
	t.Helper()
	d, e := deque.New(room)
	if d == nil || e != api.OK {
		t.Fatalf("New(%d): %d", room, e)
	}
	return d
}

// filled: a deque in which so many words were pushed: 10, 11, and so on.
func filled(t *testing.T, room, many int) *deque.Deque {
	t.Helper()
	d := newDeque(t, room)
	for i := range many {
		wantEnd(t, "Push", d.Push(10+i), 3, 0, api.OK)
	}
	return d
}

func steal(t *testing.T, d *deque.Deque, who int) *deque.Call {
	t.Helper()
	c, e := d.Steal(who)
	if c == nil || e != api.OK {
		t.Fatalf("Steal(%d): %d", who, e)
	}
	return c
}

// wantEnd: a call goes on up to its end, and is done behind just so many steps more, with that word and error.
func wantEnd(t *testing.T, what string, c *deque.Call, steps, word int, errno api.Errno) {
	t.Helper()
	for i := range steps {
		wantOpen(t, what, c)
		if done := c.Step(); done != (i == steps-1) {
			t.Fatalf("%s: step %d of %d: done is %t", what, i+1, steps, done)
		}
	}
	wantResult(t, what, c, word, errno)
}

func wantOpen(t *testing.T, what string, c *deque.Call) {
	t.Helper()
	if c.Done() {
		t.Fatalf("%s: done too early", what)
	}
	if w, e := c.Result(); w != 0 || e != api.ErrOrder {
		t.Fatalf("%s: Result ahead of its end: %d, %d", what, w, e)
	}
}

func wantResult(t *testing.T, what string, c *deque.Call, word int, errno api.Errno) {
	t.Helper()
	if !c.Done() {
		t.Fatalf("%s: isn't done", what)
	}
	if w, e := c.Result(); w != word || e != errno {
		t.Fatalf("%s: Result: %d, %d, want %d, %d", what, w, e, word, errno)
	}
}

// wantTouches: a call's next steps, each of one touch.
func wantTouches(t *testing.T, what string, d *deque.Deque, c *deque.Call, touches ...cell.Touch) {
	t.Helper()
	for i, want := range touches {
		wantOpen(t, what, c)
		d.Cells().Clear()
		done := c.Step()
		if got := d.Cells().Log(); len(got) != 1 || got[0] != want {
			t.Fatalf("%s: step %d of these: touches %v, want %v", what, i+1, got, want)
		}
		if done != c.Done() {
			t.Fatalf("%s: Step says %t, Done %t", what, done, c.Done())
		}
	}
}

// wantDone: a call is done with that, and stays so without a touch, however often it is told to step.
func wantDone(t *testing.T, what string, d *deque.Deque, c *deque.Call, word int, errno api.Errno) {
	t.Helper()
	wantResult(t, what, c, word, errno)
	was := d.Cells().Words()
	d.Cells().Clear()
	for range 3 {
		if !c.Step() {
			t.Errorf("%s: Step of a call that is done: false", what)
		}
	}
	wantResult(t, what+", stepped once more", c, word, errno)
	if l := d.Cells().Log(); len(l) != 0 || !slices.Equal(d.Cells().Words(), was) {
		t.Errorf("%s: a call that is done goes on: %v", what, l)
	}
}

// wantWords: these stand in a deque, and asking for them is no touch.
func wantWords(t *testing.T, what string, d *deque.Deque, want ...int) {
	t.Helper()
	was := len(d.Cells().Log())
	if got := d.Words(); !slices.Equal(got, want) {
		t.Errorf("%s: Words: %v, want %v", what, got, want)
	}
	if len(d.Cells().Log()) != was {
		t.Errorf("%s: Words touched a cell", what)
	}
}

func wantCells(t *testing.T, what string, d *deque.Deque, want ...int) {
	t.Helper()
	if got := d.Cells().Words(); !slices.Equal(got, want) {
		t.Errorf("%s: cells: %v, want %v", what, got, want)
	}
}

// P6.1: New, at the least and the greatest room, and beside them.
func TestNew(t *testing.T) {
	for _, room := range []int{2, 3, 1023, 1024} {
		d := newDeque(t, room)
		wantCells(t, "New", d, make([]int, room+2)...)
		wantWords(t, "New", d)
		if l := d.Cells().Log(); len(l) != 0 {
			t.Errorf("New(%d): touches %v", room, l)
		}
		if d.Cells() != d.Cells() {
			t.Errorf("New(%d): Cells answers others each time", room)
		}
	}
	for _, room := range []int{1, 0, -1, -2, 1025, 65536, 1<<32 + 2, math.MinInt, math.MaxInt} {
		if d, e := deque.New(room); d != nil || e != api.ErrRange {
			t.Errorf("New(%d): %v, %d, want nil, ErrRange", room, d, e)
		}
	}
}

// P6.1: who may steal.
func TestWhoSteals(t *testing.T) {
	d := filled(t, 4, 3)
	d.Cells().Clear()
	was := d.Cells().Words()
	for _, who := range []int{0, -1, 64, 65, -64, 1 << 32, 1<<32 + 1, math.MinInt, math.MaxInt} {
		if c, e := d.Steal(who); c != nil || e != api.ErrRange {
			t.Errorf("Steal(%d): %v, %d, want nil, ErrRange", who, c, e)
		}
	}
	wantCells(t, "refused", d, was...)
	if l := d.Cells().Log(); len(l) != 0 {
		t.Errorf("refused: touches %v", l)
	}
	for i, who := range []int{1, 2, 63} {
		c := steal(t, d, who)
		wantTouches(t, "Steal", d, c, touch(who, top, load, i, i))
		wantEnd(t, "Steal", c, 3, 10+i, api.OK)
	}
}

// A call that is begun has touched nothing, and isn't done.
func TestBegun(t *testing.T) {
	d := filled(t, 3, 2)
	d.Cells().Clear()
	for _, c := range []*deque.Call{d.Push(5), d.Pop(), steal(t, d, 1)} {
		wantOpen(t, "begun", c)
	}
	if l := d.Cells().Log(); len(l) != 0 {
		t.Errorf("begun: touches %v", l)
	}
	wantWords(t, "begun", d, 10, 11)
}

// P6.1: each step's one touch, of a push.
func TestPushSteps(t *testing.T) {
	d := newDeque(t, 2)
	c := d.Push(5)
	wantTouches(t, "Push 5", d, c, touch(0, bottom, load, 0, 0), touch(0, words, store, 0, 5))
	wantWords(t, "a word without its bottom", d)
	wantTouches(t, "Push 5", d, c, touch(0, bottom, store, 0, 1))
	wantDone(t, "Push 5", d, c, 0, api.OK)
	wantWords(t, "Push 5", d, 5)
	c = d.Push(-6)
	wantTouches(t, "Push -6", d, c, touch(0, bottom, load, 1, 1), touch(0, words+1, store, 0, -6), touch(0, bottom, store, 1, 2))
	wantDone(t, "Push -6", d, c, 0, api.OK)
	wantWords(t, "Push -6", d, 5, -6)
	c = d.Push(7)
	wantTouches(t, "Push 7", d, c, touch(0, bottom, load, 2, 2))
	wantDone(t, "Push 7", d, c, 0, api.ErrFull)
	wantCells(t, "Push 7", d, 2, 0, 5, -6)
}

// P6.1: each step's one touch, of a pop: above the top, and of the last word.
func TestPopSteps(t *testing.T) {
	d := filled(t, 3, 2)
	c := d.Pop()
	wantTouches(t, "Pop", d, c, touch(0, bottom, load, 2, 2))
	wantWords(t, "its bottom loaded", d, 10, 11)
	wantTouches(t, "Pop", d, c, touch(0, bottom, store, 2, 1))
	wantWords(t, "its bottom stored", d, 10)
	wantTouches(t, "Pop", d, c, touch(0, words+1, load, 11, 11), touch(0, top, load, 0, 0))
	wantDone(t, "Pop", d, c, 11, api.OK)
	wantCells(t, "Pop", d, 1, 0, 10, 11, 0)
	wantWords(t, "Pop", d, 10)
	c = d.Pop()
	wantTouches(t, "Pop of the last", d, c,
		touch(0, bottom, load, 1, 1), touch(0, bottom, store, 1, 0), touch(0, words, load, 10, 10),
		touch(0, top, load, 0, 0), touch(0, bottom, store, 0, 0), touch(0, top, swap, 0, topWord(0, 1)))
	wantDone(t, "Pop of the last", d, c, 10, api.OK)
	wantWords(t, "Pop of the last", d)
	c = d.Pop()
	wantTouches(t, "Pop of none", d, c, touch(0, bottom, load, 0, 0))
	wantDone(t, "Pop of none", d, c, 0, api.ErrEmpty)
	wantCells(t, "Pop of none", d, 0, topWord(0, 1), 10, 11, 0)
}

// The last word stands above place 0: it is popped with the top at that place, and all begins anew.
func TestPopLastAboveNought(t *testing.T) {
	d := filled(t, 3, 3)
	wantEnd(t, "Steal", steal(t, d, 2), 4, 10, api.OK)
	wantEnd(t, "Pop", d.Pop(), 4, 12, api.OK)
	wantWords(t, "one is left", d, 11)
	c := d.Pop()
	wantTouches(t, "Pop", d, c,
		touch(0, bottom, load, 2, 2), touch(0, bottom, store, 2, 1), touch(0, words+1, load, 11, 11),
		touch(0, top, load, 1, 1), touch(0, bottom, store, 1, 0), touch(0, top, swap, 1, topWord(0, 1)))
	wantDone(t, "Pop", d, c, 11, api.OK)
	wantCells(t, "Pop", d, 0, topWord(0, 1), 10, 11, 12)
}

// All were stolen: the pop finds its place below the top, swaps nothing, and stores another top.
func TestPopBelowTop(t *testing.T) {
	d := filled(t, 3, 2)
	wantEnd(t, "Steal", steal(t, d, 1), 4, 10, api.OK)
	wantEnd(t, "Steal", steal(t, d, 2), 4, 11, api.OK)
	wantCells(t, "both stolen", d, 2, 2, 10, 11, 0)
	wantWords(t, "both stolen", d)
	c := d.Pop()
	wantTouches(t, "Pop", d, c,
		touch(0, bottom, load, 2, 2), touch(0, bottom, store, 2, 1), touch(0, words+1, load, 11, 11), touch(0, top, load, 2, 2))
	wantWords(t, "the bottom below the top", d)
	wantTouches(t, "Pop", d, c, touch(0, bottom, store, 1, 0), touch(0, top, store, 2, topWord(0, 1)))
	wantDone(t, "Pop", d, c, 0, api.ErrEmpty)
	wantCells(t, "Pop", d, 0, topWord(0, 1), 10, 11, 0)
}

// The last word is stolen behind the load of the top: the pop's swap doesn't go.
func TestPopLosesLast(t *testing.T) {
	d := filled(t, 2, 1)
	s := steal(t, d, 7)
	wantTouches(t, "Steal", d, s, touch(7, top, load, 0, 0), touch(7, bottom, load, 1, 1))
	c := d.Pop()
	wantTouches(t, "Pop", d, c,
		touch(0, bottom, load, 1, 1), touch(0, bottom, store, 1, 0), touch(0, words, load, 10, 10), touch(0, top, load, 0, 0))
	wantTouches(t, "Steal", d, s, touch(7, words, load, 10, 10), touch(7, top, swap, 0, 1))
	wantDone(t, "Steal", d, s, 10, api.OK)
	wantWords(t, "stolen", d)
	wantTouches(t, "Pop", d, c, touch(0, bottom, store, 0, 0), touch(0, top, swap, 1, 1))
	wantOpen(t, "Pop whose swap didn't go", c)
	wantTouches(t, "Pop", d, c, touch(0, top, store, 1, topWord(0, 1)))
	wantDone(t, "Pop", d, c, 0, api.ErrEmpty)
	wantCells(t, "Pop", d, 0, topWord(0, 1), 10, 0)
}

// The same, but stolen ahead of the load of the top: no swap.
func TestPopFindsLastStolen(t *testing.T) {
	d := filled(t, 2, 1)
	s, c := steal(t, d, 7), d.Pop()
	wantTouches(t, "Steal", d, s, touch(7, top, load, 0, 0), touch(7, bottom, load, 1, 1))
	wantTouches(t, "Pop", d, c, touch(0, bottom, load, 1, 1), touch(0, bottom, store, 1, 0), touch(0, words, load, 10, 10))
	wantEnd(t, "Steal", s, 2, 10, api.OK)
	wantTouches(t, "Pop", d, c, touch(0, top, load, 1, 1), touch(0, bottom, store, 0, 0), touch(0, top, store, 1, topWord(0, 1)))
	wantDone(t, "Pop", d, c, 0, api.ErrEmpty)
}

// P6.1: each step's one touch, of a steal, and its three ends.
func TestStealSteps(t *testing.T) {
	d := newDeque(t, 3)
	c := steal(t, d, 5)
	wantTouches(t, "Steal of none", d, c, touch(5, top, load, 0, 0), touch(5, bottom, load, 0, 0))
	wantDone(t, "Steal of none", d, c, 0, api.ErrEmpty)
	d = filled(t, 3, 2)
	c, late := steal(t, d, 63), steal(t, d, 1)
	wantTouches(t, "Steal", d, c, touch(63, top, load, 0, 0), touch(63, bottom, load, 2, 2), touch(63, words, load, 10, 10))
	wantTouches(t, "late", d, late, touch(1, top, load, 0, 0), touch(1, bottom, load, 2, 2))
	wantWords(t, "nothing swapped yet", d, 10, 11)
	wantTouches(t, "Steal", d, c, touch(63, top, swap, 0, 1))
	wantDone(t, "Steal", d, c, 10, api.OK)
	wantWords(t, "Steal", d, 11)
	wantTouches(t, "late", d, late, touch(1, words, load, 10, 10), touch(1, top, swap, 1, 1))
	wantDone(t, "late", d, late, 0, api.ErrLost)
	wantWords(t, "late", d, 11)
	c = steal(t, d, 1)
	wantTouches(t, "second", d, c, touch(1, top, load, 1, 1), touch(1, bottom, load, 2, 2), touch(1, words+1, load, 11, 11), touch(1, top, swap, 1, 2))
	wantDone(t, "second", d, c, 11, api.OK)
	c = steal(t, d, 2)
	wantTouches(t, "none left", d, c, touch(2, top, load, 2, 2), touch(2, bottom, load, 2, 2))
	wantDone(t, "none left", d, c, 0, api.ErrEmpty)
	wantCells(t, "none left", d, 2, 2, 10, 11, 0)
}

// A steal while a pop has the bottom below the top is one of an empty deque too.
func TestStealBottomBelowTop(t *testing.T) {
	d := filled(t, 2, 1)
	wantEnd(t, "Steal", steal(t, d, 1), 4, 10, api.OK)
	c := d.Pop()
	wantTouches(t, "Pop", d, c, touch(0, bottom, load, 1, 1), touch(0, bottom, store, 1, 0))
	wantEnd(t, "Steal", steal(t, d, 2), 2, 0, api.ErrEmpty)
	wantEnd(t, "Pop", c, 4, 0, api.ErrEmpty)
}

// The owner pops the last word, and pushes another one at the same place: the top's place is the same, its tag isn't, and the steal is lost.
func TestStealLostByTag(t *testing.T) {
	d := filled(t, 2, 1)
	s := steal(t, d, 3)
	wantTouches(t, "Steal", d, s, touch(3, top, load, 0, 0), touch(3, bottom, load, 1, 1), touch(3, words, load, 10, 10))
	wantEnd(t, "Pop", d.Pop(), 6, 10, api.OK)
	wantEnd(t, "Push", d.Push(20), 3, 0, api.OK)
	wantTouches(t, "Steal", d, s, touch(3, top, swap, topWord(0, 1), topWord(0, 1)))
	wantDone(t, "Steal", d, s, 0, api.ErrLost)
	wantWords(t, "Steal", d, 20)
	wantEnd(t, "Steal once more", steal(t, d, 3), 4, 20, api.OK)
	wantCells(t, "its tag stays", d, 1, topWord(1, 1), 20, 0)
}

// The tag is one more behind each pop that empties the deque, or finds it emptied, and behind no other call.
func TestTag(t *testing.T) {
	d := newDeque(t, 4)
	wantTop := func(what string, place, tag int) {
		t.Helper()
		if got := d.Cells().Words()[top]; got != topWord(place, tag) {
			t.Fatalf("%s: the top is %d, want %d", what, got, topWord(place, tag))
		}
	}
	for round := range 500 {
		tag := 2 * round
		wantEnd(t, "Pop of none", d.Pop(), 1, 0, api.ErrEmpty)
		wantEnd(t, "Push", d.Push(1), 3, 0, api.OK)
		wantEnd(t, "Push", d.Push(2), 3, 0, api.OK)
		wantEnd(t, "Pop", d.Pop(), 4, 2, api.OK)
		wantTop("nothing emptied", 0, tag)
		wantEnd(t, "Pop of the last", d.Pop(), 6, 1, api.OK)
		wantTop("emptied", 0, tag+1)
		wantEnd(t, "Steal of none", steal(t, d, 1), 2, 0, api.ErrEmpty)
		wantEnd(t, "Push", d.Push(3), 3, 0, api.OK)
		wantEnd(t, "Push", d.Push(4), 3, 0, api.OK)
		wantEnd(t, "Steal", steal(t, d, 1), 4, 3, api.OK)
		wantTop("one stolen", 1, tag+1)
		wantEnd(t, "Steal", steal(t, d, 2), 4, 4, api.OK)
		wantTop("both stolen", 2, tag+1)
		wantEnd(t, "Pop of what was stolen", d.Pop(), 6, 0, api.ErrEmpty)
		wantTop("found emptied", 0, tag+2)
	}
}

// A full deque, at each kind of room: a push changes nothing, steals make no room, a pop does for one, and as soon as all were popped there is room for all again.
func TestFull(t *testing.T) {
	for _, room := range []int{2, 3, 7, 1023, 1024} {
		d := filled(t, room, room)
		was := d.Cells().Words()
		wantEnd(t, "Push of a full one", d.Push(-1), 1, 0, api.ErrFull)
		wantCells(t, "Push of a full one", d, was...)
		wantEnd(t, "Steal", steal(t, d, 1), 4, 10, api.OK)
		wantEnd(t, "Push behind a steal", d.Push(-1), 1, 0, api.ErrFull)
		if room > 2 {
			wantEnd(t, "Pop", d.Pop(), 4, 10+room-1, api.OK)
			wantEnd(t, "Push behind a pop", d.Push(-2), 3, 0, api.OK)
			wantEnd(t, "Push", d.Push(-1), 1, 0, api.ErrFull)
			wantEnd(t, "Pop", d.Pop(), 4, -2, api.OK)
			for i := room - 2; i > 1; i-- {
				wantEnd(t, "Pop", d.Pop(), 4, 10+i, api.OK)
			}
		}
		wantEnd(t, "Pop of the last", d.Pop(), 6, 11, api.OK)
		for i := range room {
			wantEnd(t, "Push anew", d.Push(i), 3, 0, api.OK)
		}
		wantEnd(t, "Push", d.Push(-1), 1, 0, api.ErrFull)
		for i := range room {
			wantEnd(t, "Steal of all", steal(t, d, 1+i%63), 4, i, api.OK)
		}
		wantWords(t, "all stolen", d)
		wantEnd(t, "Push, all stolen", d.Push(-1), 1, 0, api.ErrFull)
		wantEnd(t, "Pop, all stolen", d.Pop(), 6, 0, api.ErrEmpty)
		wantEnd(t, "Push", d.Push(5), 3, 0, api.OK)
		wantWords(t, "room again", d, 5)
	}
}

// One takes from below, others from above: of many words, one behind the other.
func TestBothEnds(t *testing.T) {
	d := filled(t, 1024, 1024)
	low, high := 10, 10+1023
	for low+1 < high {
		wantEnd(t, "Steal", steal(t, d, 1+low%63), 4, low, api.OK)
		low++
		wantEnd(t, "Pop", d.Pop(), 4, high, api.OK)
		high--
	}
	wantWords(t, "two are left", d, low, high)
	wantEnd(t, "Steal", steal(t, d, 9), 4, low, api.OK)
	wantEnd(t, "Pop", d.Pop(), 6, high, api.OK)
	wantCells(t, "none is left", d, append([]int{0, topWord(0, 1)}, d.Cells().Words()[2:]...)...)
}

// Words are what they are, whichever: also noughts, and several alike.
func TestAnyWord(t *testing.T) {
	d := newDeque(t, 8)
	odd := []int{0, -1, math.MaxInt, math.MinInt, 4096, 0, 7, 7}
	for _, w := range odd {
		wantEnd(t, "Push", d.Push(w), 3, 0, api.OK)
	}
	wantWords(t, "any", d, odd...)
	for i := range 3 {
		wantEnd(t, "Steal", steal(t, d, 4), 4, odd[i], api.OK)
	}
	for i := 7; i > 3; i-- {
		wantEnd(t, "Pop", d.Pop(), 4, odd[i], api.OK)
	}
	wantEnd(t, "Pop of the last", d.Pop(), 6, math.MinInt, api.OK)
}

// R6: words that are answered are new memory, spare room too.
func TestWordsAreNew(t *testing.T) {
	d := filled(t, 5, 4)
	wantEnd(t, "Steal", steal(t, d, 1), 4, 10, api.OK)
	was, one, other := d.Cells().Words(), d.Words(), d.Words()
	one = one[:cap(one)]
	for i := range one {
		one[i] = 99
	}
	wantCells(t, "an answer written over", d, was...)
	wantWords(t, "an answer written over", d, 11, 12, 13)
	wantEnd(t, "Push", d.Push(14), 3, 0, api.OK)
	wantEnd(t, "Steal", steal(t, d, 1), 4, 11, api.OK)
	if !slices.Equal(other, []int{11, 12, 13}) {
		t.Errorf("an answer changed with the deque: %v", other)
	}
}

// R8: deques, and calls, know nothing of each other.
func TestApart(t *testing.T) {
	a, b := newDeque(t, 2), newDeque(t, 3)
	x, y := a.Push(5), b.Push(6)
	for range 3 {
		x.Step()
		y.Step()
	}
	wantCells(t, "one", a, 1, 0, 5, 0)
	wantCells(t, "other", b, 1, 0, 6, 0, 0)
	wantEnd(t, "Pop", a.Pop(), 6, 5, api.OK)
	wantWords(t, "other", b, 6)
	wantResult(t, "Push", y, 0, api.OK)
}

// P7: the cells are handed out; whatever somebody stores there, calls end, and none panics.
func TestOddCells(t *testing.T) {
	odd := []int{0, 1, 2, 3, 4, -1, -2, -3, -4096, 4095, 4096, 4099, 1 << 20, 1 << 40, math.MaxInt, math.MaxInt - 1, math.MinInt, math.MinInt + 1}
	for _, b := range odd {
		for _, x := range odd {
			for kind := range 3 {
				d := filled(t, 3, 2)
				d.Cells().Store(0, bottom, b)
				d.Cells().Store(0, top, x)
				if n := len(d.Words()); n > 3 {
					t.Fatalf("bottom %d, top %d: %d words", b, x, n)
				}
				c := []*deque.Call{d.Push(5), d.Pop(), steal(t, d, 1)}[kind]
				for range 7 {
					c.Step()
				}
				if !c.Done() {
					t.Fatalf("bottom %d, top %d: call %d doesn't end", b, x, kind)
				}
				d.Words()
			}
		}
	}
}
