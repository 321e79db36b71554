package slider_test

import (
	"math"
	"slices"
	"testing"

	"besom/api"
	"besom/heap"
	"besom/marks"
	"besom/slider"
)

// most, maxWorkers: how many words a heap has at most, and how many workers there are, by the document.
const (
	most       = 65536
	maxWorkers = 64
)

// filler: its kind, by the document.
const filler = 15

// small: heaps of no more words are looked at behind each step.
const small = 64

// enough: no sliding that is watched takes so many steps, whoever stands meanwhile.
const enough = 2000000

// object: one that stays, or doesn't, as the heap's words tell it.
type object struct{ at, room, pointers, to int }

// end: what a plain sliding makes of a heap.
type end struct {
	words []int
	top   int
	stays []object
}

// plain: the chapter's words, told from the heap's words, without regions or workers.
func plain(h *heap.Heap, m *marks.Map) end {
	old := h.Words()
	x := end{words: slices.Clone(old)}
	goes := map[int]int{}
	for at := 0; at < h.Top(); {
		o := object{at: at, room: 1 + old[at]/65536, pointers: old[at] / 16 % 4096, to: x.top}
		if old[at]%16 != filler && m.Has(at) {
			x.stays = append(x.stays, o)
			goes[at] = x.top
			x.top += o.room
		}
		at += o.room
	}
	clear(x.words[:h.Top()])
	for _, o := range x.stays {
		for i := range o.room {
			word := old[o.at+i]
			if i >= 1 && i <= o.pointers && word != 0 {
				word = goes[word-1] + 1
			}
			x.words[o.to+i] = word
		}
	}
	return x
}

// run: a sliding that is watched at each step.
type run struct {
	t       *testing.T
	name    string
	s       *slider.Sliding
	h       *heap.Heap
	m       *marks.Map
	workers int
	words   []int
	top     int
	set     []int
	want    end
	least   []int
	touches int
	moved   int
	steps   int
}

func begin(t *testing.T, name string, h *heap.Heap, m *marks.Map, words, workers int) *run {
	t.Helper()
	x := &run{t: t, name: name, h: h, m: m, workers: workers, words: h.Words(), top: h.Top(), set: slices.Collect(m.All()), want: plain(h, m)}
	x.least = leastRooms(x.want.stays)
	s, e := slider.New(h, m, words, workers)
	if s == nil || e != api.OK {
		t.Fatalf("%s: New: %v, %d", name, s, e)
	}
	x.s = s
	if s.Over() != (h.Top() == 0) || s.Touches() != 0 || s.Moved() != 0 {
		t.Fatalf("%s: a new one: over %t, %d touches, %d moved", name, s.Over(), s.Touches(), s.Moved())
	}
	x.wantKept()
	x.wantNoWorker()
	return x
}

// wantKept: what was handed in is as it was.
func (x *run) wantKept() {
	if !slices.Equal(x.h.Words(), x.words) || x.h.Top() != x.top || !slices.Equal(slices.Collect(x.m.All()), x.set) {
		x.t.Fatalf("%s: step %d: the heap, or the marks, that were handed in are others", x.name, x.steps)
	}
}

// wantNoWorker: of workers that there aren't Step is ErrRange, and does nothing.
func (x *run) wantNoWorker() {
	over := x.s.Over()
	for _, who := range []int{math.MinInt, -1 << 32, -maxWorkers, -1, x.workers, x.workers + 1, maxWorkers, 1 << 32, math.MaxInt} {
		if e := x.s.Step(who); e != api.ErrRange {
			x.t.Fatalf("%s: step %d: Step(%d): %d, want ErrRange", x.name, x.steps, who, e)
		}
	}
	if x.s.Over() != over || x.s.Touches() != x.touches || x.s.Moved() != x.moved {
		x.t.Fatalf("%s: step %d: a Step of no worker did something", x.name, x.steps)
	}
}

// step: of a worker that there is, ahead of the end: did it move an object's last word? (It isn't told to be a helper, as that takes longer than all else.)
func (x *run) step(who int) bool {
	if h, e := x.s.Heap(); h != nil || e != api.ErrOrder {
		x.t.Fatalf("%s: step %d: Heap ahead of the end: %v, %d", x.name, x.steps, h, e)
	}
	if e := x.s.Step(who); e != api.OK {
		x.t.Fatalf("%s: step %d, of worker %d: %d", x.name, x.steps, who, e)
	}
	if x.steps++; x.steps > enough {
		x.t.Fatalf("%s: not over behind %d steps", x.name, enough)
	}
	touches, moved := x.s.Touches()-x.touches, x.s.Moved()-x.moved
	x.touches, x.moved = x.s.Touches(), x.s.Moved()
	if touches < 0 || touches > 1 || moved < 0 || moved > 1 {
		x.t.Fatalf("%s: step %d: %d touches, %d moved", x.name, x.steps, touches, moved)
	}
	if moved == 1 && touches == 0 {
		x.t.Fatalf("%s: step %d: moved without a touch", x.name, x.steps)
	}
	// Each word of what was moved was loaded and stored, whatever else was touched; which objects these are isn't told.
	if x.touches < 2*x.least[x.moved] {
		x.t.Fatalf("%s: step %d: %d moved with %d touches, want %d at least", x.name, x.steps, x.moved, x.touches, 2*x.least[x.moved])
	}
	if len(x.words) <= small {
		x.wantKept()
		x.wantOver()
	}
	return moved == 1
}

// leastRooms: how many words each number of these objects has at least.
func leastRooms(stays []object) []int {
	var rooms []int
	for _, o := range stays {
		rooms = append(rooms, o.room)
	}
	slices.Sort(rooms)
	least := []int{0}
	for i, room := range rooms {
		least = append(least, least[i]+room)
	}
	return least
}

// wantOver: it is over only if all was moved; and then at once, if there are no noughts to be stored.
func (x *run) wantOver() {
	all := x.moved == len(x.want.stays)
	if x.s.Over() && !all || all && x.want.top == x.top && !x.s.Over() {
		x.t.Fatalf("%s: step %d: over %t, %d of %d moved, %d words of %d", x.name, x.steps, x.s.Over(), x.moved, len(x.want.stays), x.want.top, x.top)
	}
}

// rounds: so many are enough, by the chapter, of a heap with so many words below its top.
func rounds(top int) int { return 10*(top/2) + 10 }

// finish: round by round, each worker once, in the order that is told for each round, until it is over, and then all is as it should be.
func (x *run) finish(order func() []int) {
	x.t.Helper()
	for range rounds(x.top) {
		for _, who := range order() {
			if x.s.Over() {
				x.wantEnd()
				return
			}
			x.step(who)
		}
	}
	if !x.s.Over() {
		x.t.Fatalf("%s: not over within %d rounds, %d steps", x.name, rounds(x.top), x.steps)
	}
	x.wantEnd()
}

// wantEnd: all that is told behind the end.
func (x *run) wantEnd() {
	x.t.Helper()
	for who := range x.workers {
		if e := x.s.Step(who); e != api.ErrEnd {
			x.t.Fatalf("%s: Step(%d) behind the end: %d", x.name, who, e)
		}
	}
	x.wantNoWorker()
	x.wantKept()
	x.wantHeap()
	x.wantRoots()
	if least := x.want.top + x.top; !x.s.Over() || x.s.Moved() != len(x.want.stays) || x.s.Touches() != x.touches || x.touches < least {
		x.t.Fatalf("%s: behind the end: over %t, %d moved, %d touches, want %d, %d at least", x.name, x.s.Over(), x.s.Moved(), x.s.Touches(), len(x.want.stays), least)
	}
}

// wantHeap: the heap against the plain one; each one answered is another one, of which nothing hangs on what is done to others.
func (x *run) wantHeap() {
	x.t.Helper()
	for range 2 {
		h, e := x.s.Heap()
		if h == nil || h == x.h || e != api.OK {
			x.t.Fatalf("%s: Heap: %p, %d, handed in was %p", x.name, h, e, x.h)
		}
		if !slices.Equal(h.Words(), x.want.words) || h.Top() != x.want.top || h.Size() != len(x.words) {
			x.t.Fatalf("%s: Heap: %v, top %d, size %d, want %v, top %d, size %d", x.name, h.Words(), h.Top(), h.Size(), x.want.words, x.want.top, len(x.words))
		}
		if h.Check() != api.OK {
			x.t.Fatalf("%s: Heap: its references lead astray", x.name)
		}
		spoil(h)
	}
}

// spoil: all words that may be changed are changed, and the top too.
func spoil(h *heap.Heap) {
	for at, head := range h.Walk() {
		for field := range head.Length {
			word := -7
			if field < head.Pointers {
				word = at + 1
			}
			h.Write(at, field, word)
		}
	}
	h.Place(api.Head{Kind: 14, Length: 0})
}

// wantRoots: all that lead to what stays, twice each and 0 between; the list that was handed in is as it was, and that answered is new memory.
func (x *run) wantRoots() {
	x.t.Helper()
	var l, want []int
	for _, o := range x.want.stays {
		l = append(l, o.at+1, 0, o.at+1)
		want = append(want, o.to+1, 0, o.to+1)
	}
	kept := slices.Clone(l)
	for range 2 {
		got, e := x.s.Roots(l)
		if !slices.Equal(got, want) || e != api.OK || !slices.Equal(l, kept) {
			x.t.Fatalf("%s: Roots of %v: %v, %d, want %v", x.name, kept, got, e, want)
		}
		got = got[:cap(got)]
		for i := range got {
			got[i] = -1
		}
	}
	if !slices.Equal(l, kept) {
		x.t.Fatalf("%s: Roots: the list answered is the one handed in", x.name)
	}
}

// inTurn: each round from worker 0 on.
func inTurn(workers int) func() []int {
	var l []int
	for who := range workers {
		l = append(l, who)
	}
	return func() []int { return l }
}
