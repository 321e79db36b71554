package phase_test

import (
	"fmt"
	"math"
	"slices"
	"testing"

	"besom/api"
	"besom/heap"
	"besom/phase"
)

// The greatest numbers that are allowed, by the document.
const (
	most       = 65536
	maxWorkers = 64
	maxRoom    = 1024
	maxChunk   = 4095
	maxRoots   = 1024
	maxPart    = 64
)

// small: heaps of no more words are looked at behind each step.
const small = 64

// run: a collection that is watched at each step.
type run struct {
	t      *testing.T
	name   string
	c      *phase.Collection
	h      *heap.Heap
	n      phase.Config
	words  []int
	top    int
	handed []int // the list of roots that was handed in
	roots  []int // and what it had then
	want   end
	phase  int
	phases string // each one that was told, once
	marked int
	moved  int
	steps  int
}

func begin(t *testing.T, name string, h *heap.Heap, roots []int, n phase.Config) *run {
	t.Helper()
	x := &run{t: t, name: fmt.Sprintf("%s, %+v", name, n), h: h, n: n, words: h.Words(), top: h.Top(), handed: roots, roots: slices.Clone(roots), want: plain(h, roots)}
	c, e := phase.New(h, roots, n)
	if c == nil || e != api.OK {
		t.Fatalf("%s: New: %v, %d", x.name, c, e)
	}
	x.c, x.phase, x.phases = c, 1, "1"
	x.wantTold()
	x.wantKept()
	x.wantNoWorker()
	return x
}

// beginPlan: of a plan.
func beginPlan(t *testing.T, p *plan, n phase.Config) *run {
	t.Helper()
	h, roots := p.build(t)
	return begin(t, p.name, h, roots, n)
}

// over: is it?
func (x *run) over() bool { return x.phase == 3 }

// wantKept: what was handed in is as it was.
func (x *run) wantKept() {
	if !slices.Equal(x.h.Words(), x.words) || x.h.Top() != x.top || !slices.Equal(x.handed, x.roots) {
		x.t.Fatalf("%s: step %d: the heap, or the roots, that were handed in are others", x.name, x.steps)
	}
}

// wantTold: all that is told is what was told last, or at first.
func (x *run) wantTold() {
	if c := x.c; c.Phase() != x.phase || c.Marked() != x.marked || c.Moved() != x.moved || c.Steps() != x.steps {
		x.t.Fatalf("%s: phase %d, %d marked, %d moved, %d steps, want %d, %d, %d, %d", x.name, c.Phase(), c.Marked(), c.Moved(), c.Steps(), x.phase, x.marked, x.moved, x.steps)
	}
}

// wantNoWorker: of workers that there aren't Step is ErrRange, and does nothing.
func (x *run) wantNoWorker() {
	for i, who := range []int{math.MinInt, -1 << 32, -maxWorkers, -1, x.n.Workers, x.n.Workers + 1, maxWorkers, 1 << 32, math.MaxInt} {
		if e := x.c.Step(who, farDraws[i%len(farDraws)]); e != api.ErrRange {
			x.t.Fatalf("%s: step %d: Step(%d): %d, want ErrRange", x.name, x.steps, who, e)
		}
	}
	x.wantTold()
}

// wantOrder: there is no result yet.
func (x *run) wantOrder() {
	if h, l, e := x.c.Result(); h != nil || len(l) != 0 || e != api.ErrOrder {
		x.t.Fatalf("%s: step %d: Result ahead of the end: %v, %v, %d", x.name, x.steps, h, l, e)
	}
}

// step: of a worker that there is, ahead of the end. (It isn't told to be a helper, as that takes longer than all else.)
func (x *run) step(who, draw int) {
	x.wantOrder()
	was := x.phase
	if e := x.c.Step(who, draw); e != api.OK {
		x.t.Fatalf("%s: step %d, of worker %d, draw %d: %d", x.name, x.steps+1, who, draw, e)
	}
	x.steps++
	marked, moved := x.c.Marked()-x.marked, x.c.Moved()-x.moved
	if x.phase = x.c.Phase(); x.phase != was {
		x.phases += fmt.Sprint(x.phase)
	}
	x.marked += marked
	x.moved += moved
	x.wantTold()
	switch {
	case x.phase < was || x.phase > 3:
		x.t.Fatalf("%s: step %d: phase %d behind phase %d", x.name, x.steps, x.phase, was)
	case marked < 0 || moved < 0 || marked+moved > 1:
		x.t.Fatalf("%s: step %d: %d marked at once, %d moved", x.name, x.steps, marked, moved)
	case marked > 0 && was != 1 || moved > 0 && was != 2:
		x.t.Fatalf("%s: step %d, in phase %d: %d marked, %d moved", x.name, x.steps, was, marked, moved)
	case was == 1 && x.phase != 1:
		x.wantMarked()
	}
	x.wantPhase()
	if len(x.words) <= small {
		x.wantKept()
	}
}

// wantMarked: at the end of marking all that is reached is marked, no work is left, and nothing was moved.
func (x *run) wantMarked() {
	if got := slices.Collect(x.c.Marks().All()); !slices.Equal(got, x.want.reached) || x.marked != len(got) || x.moved != 0 || x.c.Work() != 0 || !x.c.Over() {
		x.t.Fatalf("%s: step %d, the end of marking: %v, told are %d, moved %d, work %d, over %t, want %v", x.name, x.steps, got, x.marked, x.moved, x.c.Work(), x.c.Over(), x.want.reached)
	}
}

// wantPhase: a phase isn't over ahead of its work's end; and without noughts to be stored sliding is over with the last object, at once if there is nothing to be done.
func (x *run) wantPhase() {
	n := len(x.want.reached)
	switch {
	case x.phase != 1 && x.marked != n, x.phase == 3 && x.moved != n:
		x.t.Fatalf("%s: step %d: phase %d, though %d are marked, and %d moved, of %d", x.name, x.steps, x.phase, x.marked, x.moved, n)
	case x.phase == 2 && x.moved == n && x.want.top == x.top:
		x.t.Fatalf("%s: step %d: phase 2, though all is done", x.name, x.steps)
	}
}

// rounds: so many are enough, by chapters 11 and 14 together.
func (x *run) rounds() int {
	return (400+20*x.n.Workers)*(len(x.words)+len(x.roots)+10) + 10*(x.top/2) + 10
}

// finish: round by round, each worker once, in the order that is told for each round, until it is over, and then all is as it should be.
func (x *run) finish(order func() []int, draw func() int) {
	x.t.Helper()
	for range x.rounds() {
		for _, who := range order() {
			if x.over() {
				x.wantEnd()
				return
			}
			x.step(who, draw())
		}
	}
	if !x.over() {
		x.t.Fatalf("%s: not over within %d rounds, %d steps", x.name, x.rounds(), x.steps)
	}
	x.wantEnd()
}

// plainly: all in turn, to the end.
func (x *run) plainly() {
	x.t.Helper()
	x.finish(inTurn(x.n.Workers), x.ordinal)
}

// ordinal: a draw: how many steps there were.
func (x *run) ordinal() int { return x.steps }

// wantEnd: all that is told behind the end.
func (x *run) wantEnd() {
	x.t.Helper()
	n := len(x.want.reached)
	if x.phase != 3 || x.marked != n || x.moved != n {
		x.t.Fatalf("%s: behind the end: phase %d, %d marked, %d moved, want 3, %d, %d", x.name, x.phase, x.marked, x.moved, n, n)
	}
	for who := range x.n.Workers {
		if e := x.c.Step(who, farDraws[who%len(farDraws)]); e != api.ErrEnd {
			x.t.Fatalf("%s: Step(%d) behind the end: %d", x.name, who, e)
		}
	}
	if steps := x.c.Run(); steps != 0 {
		x.t.Fatalf("%s: Run behind the end: %d", x.name, steps)
	}
	x.wantNoWorker()
	x.wantResult()
	x.wantTold()
	x.wantKept()
}

// wantResult: the heap and the roots against the plain ones, more than once; nothing hangs on what is done to what was answered.
func (x *run) wantResult() {
	x.t.Helper()
	for range 3 {
		h, l, e := x.c.Result()
		if h == nil || h == x.h || e != api.OK {
			x.t.Fatalf("%s: Result: %p, %d, handed in was %p", x.name, h, e, x.h)
		}
		if !slices.Equal(h.Words(), x.want.words) || h.Top() != x.want.top || h.Size() != len(x.words) {
			x.t.Fatalf("%s: Result: %v, top %d, size %d, want %v, top %d, size %d", x.name, h.Words(), h.Top(), h.Size(), x.want.words, x.want.top, len(x.words))
		}
		if !slices.Equal(l, x.want.roots) || h.Check() != api.OK {
			x.t.Fatalf("%s: Result: roots %v, want %v; Check %d", x.name, l, x.want.roots, h.Check())
		}
		spoil(h, l)
	}
}

// spoil: all words that may be changed are changed, and the top, and the list with its spare room.
func spoil(h *heap.Heap, l []int) {
	for at, head := range h.Walk() {
		for field := range head.Length {
			word := -7
			if field < head.Pointers {
				word = at + 1
			}
			h.Write(at, field, word)
		}
	}
	h.Place(api.Head{Kind: 14, Length: 0})
	l = l[:cap(l)]
	for i := range l {
		l[i] = -1
	}
}

// inTurn: each round from worker 0 on.
func inTurn(workers int) func() []int {
	var l []int
	for who := range workers {
		l = append(l, who)
	}
	return func() []int { return l }
}

// far: below and beyond all that is allowed; as 32 bits some of it would be.
var far = []int{math.MinInt, math.MinInt + 1, -1 << 32, 1 - 1<<32, -maxRoom, -maxWorkers, -2, -1, most + 1, 1 << 31, 1 << 32, 1<<32 + 1, 1<<32 + 2, math.MaxInt - 1, math.MaxInt}

// farDraws: such as no number of workers is.
var farDraws = []int{0, 1, -1, 63, 64, -64, 65, 1 << 32, -1 << 32, math.MinInt, math.MinInt + 1, math.MaxInt, math.MaxInt - 1}
