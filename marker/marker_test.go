package marker_test

import (
	"math"
	"math/rand"
	"slices"
	"testing"

	"besom/api"
	"besom/heap"
	"besom/marker"
	"besom/roots"
)

// The greatest numbers that are allowed, by the document.
const (
	maxWorkers = 64
	maxRoom    = 1024
	maxChunk   = 4095
)

// P11.1: New, of heaps with and without roots, at the edges of all numbers: nothing is marked yet, and each one comes to its end.
func TestNew(t *testing.T) {
	for _, p := range []*plan{none(0), none(2), row(3), unreached(3), star(7), fillers(3)} {
		for _, workers := range []int{1, 2, 3, maxWorkers - 1, maxWorkers} {
			for _, room := range []int{2, 3, maxRoom - 1, maxRoom} {
				for _, chunk := range []int{1, 2, maxChunk - 1, maxChunk} {
					newRun(t, p, numbers{workers, room, chunk, 1}).finish(inTurn(workers), func() int { return chunk })
				}
			}
		}
	}
}

// far: below and beyond all that is allowed; as 32 bits some of it would be.
var far = []int{-1, -2, -64, -1024, 65537, 1 << 31, 1<<32 + 1, 1<<32 + 2, -1 << 32, 1 - 1<<32, math.MinInt, math.MinInt + 1, math.MaxInt - 1, math.MaxInt}

// wrong: heaps and roots of which there is no marking.
func wrong(t *testing.T) (*heap.Heap, *roots.Roots, *heap.Heap, *roots.Roots) {
	t.Helper()
	good, astray := row(3).build(t, 1)
	astray.Push(3)
	bad, e := heap.Of([]int{1 + 16 + 65536, 9}, 2)
	if e != api.OK {
		t.Fatalf("Of: %d", e)
	}
	return good, astray, bad, roots.New(1)
}

func wantNone(t *testing.T, what string, h *heap.Heap, r *roots.Roots, n numbers, want api.Errno) {
	t.Helper()
	words, all, log := h.Words(), r.All(), r.Log()
	if m, e := marker.New(h, r, n.workers, n.room, n.chunk); m != nil || e != want {
		t.Fatalf("%s, %s: %v, %d, want %d", what, n, m, e, want)
	}
	if !slices.Equal(h.Words(), words) || !slices.Equal(r.All(), all) || !slices.Equal(r.Log(), log) {
		t.Fatalf("%s, %s: something is changed, or the roots are opened", what, n)
	}
}

// P11.1: New of numbers that may not be, each by itself, and several at once: ErrRange, also ahead of ErrRef.
func TestNewRange(t *testing.T) {
	h, r := row(3).build(t, 1)
	r.Claim(3)
	good, astray, bad, none := wrong(t)
	var l []numbers
	for _, x := range append([]int{0, maxWorkers + 1}, far...) {
		l = append(l, numbers{x, 2, 1, 0}, numbers{x, 1, 0, 0}, numbers{x, maxRoom, maxChunk, 0})
	}
	for _, x := range append([]int{0, 1, maxRoom + 1}, far...) {
		l = append(l, numbers{1, x, 1, 0}, numbers{0, x, 1, 0}, numbers{maxWorkers, x, maxChunk, 0})
	}
	for _, x := range append([]int{0, maxChunk + 1}, far...) {
		l = append(l, numbers{1, 2, x, 0}, numbers{1, 1, x, 0}, numbers{maxWorkers, maxRoom, x, 0})
	}
	for _, n := range l {
		wantNone(t, "right", h, r, n, api.ErrRange)
		wantNone(t, "a wrong root", good, astray, n, api.ErrRange)
		wantNone(t, "a wrong heap", bad, none, n, api.ErrRange)
	}
}

// P11.1: New of a root that leads to no object, alone, and among others, at each place.
func TestNewRefRoot(t *testing.T) {
	h, e := heap.New(40)
	if e != api.OK {
		t.Fatalf("New: %d", e)
	}
	first, _ := h.Place(api.Head{Kind: 3, Length: 4, Pointers: 1})
	filler, _ := h.Place(api.Head{Kind: api.Filler, Length: 3})
	last, _ := h.Place(api.Head{Kind: 0, Length: 2})
	h.Write(first, 2, 1+65536) // such as a head's word is
	h.Write(first, 3, first+1)
	good := []int{0, first + 1, last + 1}
	for word := range h.Size() + 3 {
		if slices.Contains(good, word) {
			continue
		}
		wantRefRoot(t, h, word, good)
	}
	for _, word := range []int{filler + 1, h.Top() + 1, h.Size(), h.Size() + 1, api.MaxWords, api.MaxWords + 1, 1 << 31, 1 << 32, 1<<32 + 1, 1<<32 + last + 1, math.MaxInt - 1, math.MaxInt} {
		wantRefRoot(t, h, word, good)
	}
	r := roots.New(1)
	for _, word := range good {
		r.Push(word)
	}
	runOf(t, "right ones", h, r, numbers{1, 2, 1, 1}).finish(inTurn(1), func() int { return 0 })
}

func wantRefRoot(t *testing.T, h *heap.Heap, word int, good []int) {
	t.Helper()
	for at := range len(good) + 1 {
		r := roots.New(1)
		for _, x := range slices.Insert(slices.Clone(good), at, word) {
			r.Push(x)
		}
		r.Claim(1)
		r.Claim(2)
		wantNone(t, "a wrong root", h, r, numbers{2, 2, 1, 1}, api.ErrRef)
	}
	r := roots.New(64)
	r.Push(word)
	wantNone(t, "a wrong root alone", h, r, numbers{maxWorkers, maxRoom, maxChunk, 1}, api.ErrRef)
}

// P11.1: New of a heap whose Check isn't OK, also where nothing reaches what is wrong.
func TestNewRefHeap(t *testing.T) {
	leads := 1 + 16 + 65536 // an object of one word, which is a reference
	for _, words := range [][]int{
		{leads, 2},
		{leads, 3},
		{leads, -1},
		{leads, math.MaxInt},
		{leads, math.MinInt},
		{leads, 0, leads, 5},
		{leads, 0, leads, 2, leads, 1},
		{leads, 0, 15, leads, 3},
		{leads, 3, 15},
	} {
		h, e := heap.Of(words, len(words))
		if e != api.OK || h.Check() != api.ErrRef {
			t.Fatalf("%v: %d", words, e)
		}
		r := roots.New(1)
		wantNone(t, "a wrong heap", h, r, numbers{1, 2, 1, 1}, api.ErrRef)
		r.Push(0)
		r.Push(1)
		r.Claim(0)
		wantNone(t, "a wrong heap, right roots", h, r, numbers{2, 2, 1, 1}, api.ErrRef)
	}
}

// P11.1: no roots, roots that are 0, an empty heap, a filler alone: it is over soon, and nothing is marked.
func TestNothingToFind(t *testing.T) {
	filler := &plan{name: "a filler", roots: []int{0}}
	filler.fill(6)
	for _, p := range []*plan{none(0), none(1), none(2), none(1024), filler, unreached(9), {name: "great, empty", spare: api.MaxWords}} {
		for _, workers := range []int{1, 2, 7, maxWorkers} {
			x := newRun(t, p, numbers{workers, 2, 1, 3})
			x.finish(inTurn(workers), func() int { return x.steps })
			if x.marked != 0 || x.peak != 0 {
				t.Errorf("%s: %d marked, work of %d", x.name, x.marked, x.peak)
			}
		}
	}
}

// P11.1: a root that is there many times is one object, and each object is marked once.
func TestRootsTwice(t *testing.T) {
	for part := 1; part <= 4; part++ {
		p := selves(1)
		p.roots = []int{1, 1, 0, 1, 1, 1, 0, 1}
		for _, workers := range []int{1, 2, 8} {
			x := newRun(t, p, numbers{workers, 2, 1, part})
			x.finish(inTurn(workers), func() int { return 0 })
			if x.marked != 1 {
				t.Errorf("%s: %d marked", x.name, x.marked)
			}
		}
	}
}

// P11.1: at each step the heap and the roots are as they were, and just the steps that were OK are counted.
func TestStepByStep(t *testing.T) {
	for i, p := range []*plan{none(3), row(5), ring(6), tree(12), star(10), stars(3, 5), fillers(4), rooted(6)} {
		for _, workers := range []int{1, 2, 5, maxWorkers} {
			draw := rand.New(rand.NewSource(int64(i)))
			x := newRun(t, p, numbers{workers, 2, 1 + i%3, 1})
			for who := 0; !x.m.Over() && x.steps < 3000; who = draw.Intn(workers) {
				x.step(who, draw.Int())
				x.wantKept()
			}
			x.finish(inTurn(workers), draw.Int)
			x.wantKept()
		}
	}
}

// P11.1: marks, claims of roots, and what the offer is told are touches, one a step at most.
func TestTouches(t *testing.T) {
	for _, workers := range []int{1, 2, 5, 20} {
		p := drawn(rand.New(rand.NewSource(7)), 60)
		p.roots = []int{0, len(p.heads), 0, 0, 0, 0}
		for p.heads[p.roots[1]-1].Kind == api.Filler {
			p.roots[1]--
		}
		x := newRun(t, p, numbers{workers, 2, 1, 2})
		claims := 0
		for i := 0; !x.m.Over(); i++ {
			was := x.touches
			at := x.step(i*7%workers, i)
			got := len(x.r.Log()) - claims
			if at >= 0 {
				got++
			}
			if got > x.touches-was {
				t.Fatalf("%s: step %d: %d touches of marks and roots, %d told", x.name, x.steps, got, x.touches-was)
			}
			claims = len(x.r.Log())
		}
		x.wantFound()
		if claims < 3 {
			t.Errorf("%s: only %d claims", x.name, claims)
		}
	}
}

// state: all that a marking tells, but for whether it is over.
func (x *run) state() []int {
	return append([]int{x.m.Work(), x.m.Touches(), x.m.Steps(), len(x.r.Log())}, slices.Collect(x.m.Marks().All())...)
}

// wantRefused: a step that is answered so changes nothing.
func (x *run) wantRefused(who, draw int, want api.Errno) {
	x.t.Helper()
	over, was := x.m.Over(), x.state()
	if e := x.m.Step(who, draw); e != want {
		x.t.Fatalf("%s: step behind %d, of worker %d: %d, want %d", x.name, x.steps, who, e, want)
	}
	if x.m.Over() != over || !slices.Equal(x.state(), was) {
		x.t.Fatalf("%s: a step of worker %d that is refused changes something", x.name, who)
	}
}

// P11.1: Step of a worker that there isn't, at the beginning, at each step, and behind the end, where all others are told of it.
func TestStepRefused(t *testing.T) {
	for _, workers := range []int{1, 2, 3, maxWorkers} {
		x := newRun(t, tree(9), numbers{workers, 2, 1, 1})
		strange := append([]int{workers, workers + 1, maxWorkers, maxWorkers + 1, -workers}, far...)
		for i := 0; !x.m.Over(); i++ {
			x.wantRefused(strange[i%len(strange)], i, api.ErrRange)
			x.step(i%workers, i)
		}
		x.wantFound()
		for _, draw := range farDraws {
			for _, who := range strange {
				x.wantRefused(who, draw, api.ErrRange)
			}
			for who := range workers {
				x.wantRefused(who, draw, api.ErrEnd)
			}
		}
		x.wantFound()
	}
}

// P11.1: with whatever draws: each draw alone, and all of them in turn.
func TestDraws(t *testing.T) {
	for _, workers := range []int{1, 2, 3, 7, maxWorkers} {
		for _, draw := range append(farDraws, far...) {
			newRun(t, star(20), numbers{workers, 3, 2, 1}).finish(inTurn(workers), func() int { return draw })
		}
		k := 0
		newRun(t, tree(40), numbers{workers, 2, 1, 1}).finish(inTurn(workers), func() int {
			k++
			return farDraws[k%len(farDraws)]
		})
	}
}

// P11.1: it isn't over as long as somebody didn't step at all: who didn't isn't idle.
func TestNotOverWithoutAll(t *testing.T) {
	for _, workers := range []int{2, 3, 5, maxWorkers} {
		for _, p := range []*plan{none(0), row(9), star(30), unreached(4)} {
			for _, one := range []int{0, workers / 2, workers - 1} {
				x := newRun(t, p, numbers{workers, 2, 1, 1})
				for i := range 20 * x.workers * 20 {
					if who := i % workers; who != one {
						x.step(who, i)
					}
				}
				if x.m.Over() {
					t.Fatalf("%s: it is over, without a step of worker %d", x.name, one)
				}
				x.finish(inTurn(workers), func() int { return one })
			}
		}
	}
}

// P11.1: the same steps are answered in the same way, and touch, find and leave the same.
func TestSameAgain(t *testing.T) {
	for seed := range 40 {
		draw := rand.New(rand.NewSource(int64(seed)))
		p := drawn(draw, 5+seed)
		n := numbers{1 + seed%7, 2 + seed%2, 1 + seed%3, 1 + seed%4}
		one, two := newRun(t, p, n), newRun(t, p, n)
		for !one.m.Over() {
			who, by := draw.Intn(n.workers), draw.Int()-draw.Int()
			one.step(who, by)
			two.step(who, by)
			if one.m.Over() != two.m.Over() || !slices.Equal(one.state(), two.state()) {
				t.Fatalf("%s: step %d: %v, and then %v", one.name, one.steps, one.state(), two.state())
			}
		}
		one.wantFound()
		two.wantFound()
	}
}
