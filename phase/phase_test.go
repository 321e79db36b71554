package phase_test

import (
	"fmt"
	"math"
	"math/rand"
	"slices"
	"testing"

	"besom/api"
	"besom/heap"
	"besom/marker"
	"besom/phase"
	"besom/roots"
	"besom/slider"
)

// good: numbers that may be.
var good = phase.Config{Workers: 2, Room: 2, Chunk: 1, Part: 2, Region: 4}

// someNumbers: of all kinds, the least and the greatest too.
func someNumbers() []phase.Config {
	return []phase.Config{
		{Workers: 1, Room: 2, Chunk: 1, Part: 1, Region: 2},
		{Workers: 1, Room: 16, Chunk: 4, Part: 3, Region: 9},
		{Workers: 2, Room: 2, Chunk: 1, Part: 1, Region: 3},
		{Workers: 3, Room: 3, Chunk: 2, Part: 2, Region: 5},
		{Workers: 5, Room: 8, Chunk: 3, Part: 5, Region: 16},
		{Workers: maxWorkers - 1, Room: maxRoom - 1, Chunk: maxChunk - 1, Part: maxPart - 1, Region: most - 1},
		{Workers: maxWorkers, Room: maxRoom, Chunk: maxChunk, Part: maxPart, Region: most},
	}
}

// P15.1, P15.2: heaps and roots of all kinds, by one worker and by several, by numbers of all kinds.
func TestPlans(t *testing.T) {
	for _, p := range plans() {
		for _, n := range someNumbers() {
			x := beginPlan(t, p, n)
			x.plainly()
			want := "123"
			if x.top == 0 {
				want = "13"
			}
			if x.phases != want {
				t.Errorf("%s: phases %s, want %s", x.name, x.phases, want)
			}
		}
	}
}

// P15.1: each number at its least and its greatest, with all others; parts and regions are as near as they are told.
func TestEachNumber(t *testing.T) {
	p := plans()[0]
	sizes := append([]int{0, 1, 2, 3, 5, 31, maxPart - 1, maxPart, maxPart + 1, 4096, most - 1, most}, far...)
	for i, size := range sizes {
		for _, workers := range []int{1, 3, maxWorkers} {
			beginPlan(t, p, phase.Config{Workers: workers, Room: 4, Chunk: 2, Part: size, Region: 4}).plainly()
			beginPlan(t, p, phase.Config{Workers: workers, Room: 4, Chunk: 2, Part: 1, Region: size}).plainly()
			beginPlan(t, p, phase.Config{Workers: workers, Room: 4, Chunk: 2, Part: size, Region: sizes[len(sizes)-1-i]}).plainly()
		}
	}
	for _, room := range []int{2, 3, 64, maxRoom - 1, maxRoom} {
		for _, chunk := range []int{1, 2, 64, maxChunk - 1, maxChunk} {
			for workers := 1; workers <= 3; workers++ {
				beginPlan(t, p, phase.Config{Workers: workers, Room: room, Chunk: chunk}).plainly()
			}
		}
	}
	for workers := 1; workers <= maxWorkers; workers++ {
		beginPlan(t, p, phase.Config{Workers: workers, Room: 2, Chunk: 1, Part: 1, Region: 2}).plainly()
	}
}

// P15.1: the end, written out: what is reached, one behind the other, its references turned, its other words as they were, noughts up to the old top, and what stood beyond it; the roots, each at its place.
func TestWrittenOut(t *testing.T) {
	h, e := heap.Of([]int{
		headOf(1, 1, 1), 4, // 0: not reached
		headOf(15, 0, 0),              // 2: a filler
		headOf(2, 2, 4), 12, 4, 12, 4, // 3: leads to 11 and to itself; the other two words look as if they did
		headOf(15, 0, 2), 4, 12, // 8: a filler
		headOf(3, 3, 3), 0, 12, 4, // 11: leads to 3 and to itself
		headOf(4, 0, 0), // 15: not reached
		5, 4, 12,        // behind the top
	}, 16)
	if e != api.OK {
		t.Fatalf("heap.Of: %d", e)
	}
	want := []int{headOf(2, 2, 4), 6, 1, 12, 4, headOf(3, 3, 3), 0, 6, 1, 0, 0, 0, 0, 0, 0, 0, 5, 4, 12}
	for _, n := range someNumbers() {
		x := begin(t, "written out", h, []int{12, 0, 4, 12}, n)
		x.plainly()
		got, l, _ := x.c.Result()
		if !slices.Equal(got.Words(), want) || got.Top() != 9 || fmt.Sprint(l) != "[6 0 1 6]" || x.c.Marked() != 2 || x.c.Moved() != 2 {
			t.Fatalf("%s: %v, top %d, roots %v, %d marked, %d moved", x.name, got.Words(), got.Top(), l, x.c.Marked(), x.c.Moved())
		}
	}
}

// P15.1, the chapter's example, and others of the same kind: of an empty heap, without roots and with ones that lead nowhere, it marks at first; it is over as soon as marking is, without a step that slides.
func TestEmpty(t *testing.T) {
	for _, size := range []int{1, 2, 64, most} {
		for _, roots := range [][]int{nil, {}, {0}, {0, 0, 0}, make([]int, maxRoots)} {
			h, _ := heap.New(size)
			for _, workers := range []int{1, 2, maxWorkers} {
				x := begin(t, "empty", h, roots, phase.Config{Workers: workers, Room: 2, Chunk: 1, Part: 2, Region: 2})
				if x.c.Phase() != 1 {
					t.Fatalf("%s: phase %d at first", x.name, x.c.Phase())
				}
				x.plainly()
				if x.phases != "13" || x.c.Marked() != 0 {
					t.Fatalf("%s: phases %s, %d marked", x.name, x.phases, x.c.Marked())
				}
			}
		}
	}
}

// P15.1: MaxRoots roots, one less, and few: of 0, to the same object, to different ones, in parts of all sizes.
func TestManyRoots(t *testing.T) {
	p := &plan{name: "many roots", things: many(300, object(1), object(2), fill(1), object(0)), spare: 2}
	for _, roots := range []int{1, 63, 64, 65, maxRoots - 1, maxRoots} {
		for kind, ref := range []func(i int) int{
			func(int) int { return 0 },
			func(int) int { return 2 },
			func(i int) int { return 1 + 4*(i*7%300) },
			func(i int) int { return []int{0, 1 + 4*(i%300), 2, 0, 1200}[i%5] },
		} {
			p.roots = nil
			for i := range roots {
				p.roots = append(p.roots, ref(i))
			}
			for _, workers := range []int{1, 4} {
				part := []int{1, 5, maxPart, most}[(roots+kind)%4]
				quick(t, p, phase.Config{Workers: workers, Room: 8, Chunk: 2, Part: part, Region: 32})
			}
		}
	}
}

// quick: all in turn, looked at behind the end alone, for what takes many steps.
func quick(t *testing.T, p *plan, n phase.Config) {
	t.Helper()
	x := beginPlan(t, p, n)
	for i := 0; x.c.Phase() < 3; i++ {
		if e := x.c.Step(i%n.Workers, i); e != api.OK || i >= n.Workers*x.rounds() {
			t.Fatalf("%s: step %d: %d", x.name, i, e)
		}
		x.steps++
	}
	x.phase, x.marked, x.moved = 3, x.c.Marked(), x.c.Moved()
	x.wantEnd()
}

// P15.1: the greatest heap, by one and by many.
func TestGreatest(t *testing.T) {
	deep := row(most/9, 5)
	leads := make([]int, maxChunk)
	for i := range leads {
		leads[i] = 1 + 2*i
	}
	for i, p := range []*plan{
		{name: "greatest, deep", things: deep, roots: []int{1, 0}},
		{name: "greatest, wide", things: append(many(most/2-2048, object(0), object(0)), object(maxChunk, leads...)), roots: []int{most - 4095, 3}},
		{name: "greatest, nothing reached", things: many(16, open(maxChunk, 1, 2, 3)), roots: []int{0}},
		{name: "greatest, fillers", things: many(most/4, fill(1), object(1)), roots: []int{2, most / 2}},
	} {
		for j, n := range []phase.Config{{Workers: 1, Room: 2, Chunk: 1, Part: 1, Region: 2}, {Workers: 7, Room: 16, Chunk: 64, Part: 2, Region: 512}, {Workers: maxWorkers, Room: maxRoom, Chunk: maxChunk, Part: maxPart, Region: most}} {
			if i == 0 && j > 1 {
				continue // one behind the other: the others can do nothing but look for work
			}
			quick(t, p, n)
		}
	}
}

// P15.1: each number is used as what it is: its least and its greatest take other numbers of steps, of one worker, where the other numbers are the same.
func TestNumbersAreUsed(t *testing.T) {
	steps := func(p *plan, n phase.Config) int {
		x := beginPlan(t, p, n)
		x.plainly()
		return x.c.Steps()
	}
	n := phase.Config{Workers: 1, Room: 64, Chunk: 16, Part: 8, Region: 64}
	wide := &plan{name: "wide", things: star(60), roots: append([]int{1}, make([]int, 200)...)}
	for what, change := range map[string]func(n *phase.Config, least bool){
		"part":   func(n *phase.Config, least bool) { n.Part = map[bool]int{true: 1, false: maxPart}[least] },
		"chunk":  func(n *phase.Config, least bool) { n.Chunk = map[bool]int{true: 1, false: maxChunk}[least] },
		"room":   func(n *phase.Config, least bool) { n.Room = map[bool]int{true: 2, false: maxRoom}[least] },
		"region": func(n *phase.Config, least bool) { n.Region = map[bool]int{true: 2, false: most}[least] },
	} {
		a, b := n, n
		change(&a, true)
		change(&b, false)
		if few, many := steps(wide, b), steps(wide, a); few >= many {
			t.Errorf("%s: %d steps with its greatest, %d with its least", what, few, many)
		}
	}
}

// borders: what a collection's steps, all in turn, are: behind how many of them which phase goes on.
func borders(t *testing.T, p *plan, n phase.Config) (marking, all int) {
	t.Helper()
	x := beginPlan(t, p, n)
	for i := 0; !x.over(); i++ {
		if i >= n.Workers*x.rounds() {
			t.Fatalf("%s: not over", x.name)
		}
		x.step(i%n.Workers, 0)
		if x.phase == 1 {
			marking = x.steps
		}
	}
	return marking + 1, x.steps
}

// P15.1: Run, from each place on: at the start, in the middle of marking, between the phases, in the middle of sliding, and behind the end, where there is no step left to take.
func TestRun(t *testing.T) {
	for _, p := range plans() {
		for _, n := range []phase.Config{{Workers: 1, Room: 2, Chunk: 1, Part: 1, Region: 2}, {Workers: 3, Room: 2, Chunk: 2, Part: 2, Region: 5}} {
			marking, all := borders(t, p, n)
			for ahead := 0; ahead <= all; ahead += 1 + all/60 {
				runFrom(t, p, n, ahead, all)
			}
			for _, ahead := range []int{0, 1, marking - 1, marking, min(marking+1, all), all - 1, all} {
				runFrom(t, p, n, ahead, all)
			}
		}
	}
	runFrom(t, plans()[0], phase.Config{Workers: maxWorkers, Room: 2, Chunk: 1, Part: 1, Region: 2}, 100, 0)
}

// runFrom: Run behind so many steps, all in turn. One worker alone takes as many in all as it takes without Run.
func runFrom(t *testing.T, p *plan, n phase.Config, ahead, all int) {
	t.Helper()
	x := beginPlan(t, p, n)
	for i := range ahead {
		x.step(i%n.Workers, 0)
	}
	steps := x.c.Run()
	if steps < 0 || (steps == 0) != x.over() || steps > n.Workers*x.rounds() || n.Workers == 1 && ahead+steps != all {
		t.Fatalf("%s: Run behind %d steps: %d", x.name, ahead, steps)
	}
	x.steps += steps
	x.phase, x.marked, x.moved = x.c.Phase(), x.c.Marked(), x.c.Moved()
	x.wantEnd()
}

// wantNone: New answers an error, nothing else, and changes nothing.
func wantNone(t *testing.T, what string, h *heap.Heap, roots []int, n phase.Config, want api.Errno) {
	t.Helper()
	words, top, kept := h.Words(), h.Top(), slices.Clone(roots)
	if c, e := phase.New(h, roots, n); c != nil || e != want {
		t.Fatalf("%s, %+v, %d roots: %v, %d, want %d", what, n, len(roots), c, e, want)
	}
	if !slices.Equal(h.Words(), words) || h.Top() != top || !slices.Equal(roots, kept) {
		t.Fatalf("%s, %+v: the heap, or the roots, that were handed in are others", what, n)
	}
}

// astray: a heap whose only reference leads to no object.
func astray(t *testing.T) *heap.Heap {
	t.Helper()
	h, e := heap.Of([]int{headOf(1, 1, 1), 2, 0}, 2)
	if e != api.OK || h.Check() != api.ErrRef {
		t.Fatalf("heap.Of: %d", e)
	}
	return h
}

// wrongNumbers: each of which some may not be, by itself and with others.
func wrongNumbers() []phase.Config {
	var l []phase.Config
	for _, x := range append([]int{0, maxWorkers + 1}, far...) {
		l = append(l, phase.Config{Workers: x, Room: 2, Chunk: 1}, phase.Config{Workers: x, Room: maxRoom, Chunk: maxChunk, Part: 1, Region: 2}, phase.Config{Workers: x})
	}
	for _, x := range append([]int{0, 1, maxRoom + 1}, far...) {
		l = append(l, phase.Config{Workers: 1, Room: x, Chunk: 1}, phase.Config{Workers: maxWorkers, Room: x, Chunk: maxChunk, Part: maxPart, Region: most}, phase.Config{Room: x, Chunk: 1})
	}
	for _, x := range append([]int{0, maxChunk + 1}, far...) {
		l = append(l, phase.Config{Workers: 1, Room: 2, Chunk: x}, phase.Config{Workers: maxWorkers, Room: maxRoom, Chunk: x, Part: 7, Region: 7}, phase.Config{Workers: 2, Room: 1, Chunk: x})
	}
	return l
}

// P15.1: New of more than MaxRoots roots: ErrFull, whatever else is wrong.
func TestNewFull(t *testing.T) {
	h, _ := plans()[0].build(t)
	bad := astray(t)
	for _, many := range []int{maxRoots + 1, maxRoots + 2, 2 * maxRoots, most} {
		for _, word := range []int{0, -1, math.MinInt, 2, math.MaxInt} {
			for _, at := range []int{0, maxRoots - 1, maxRoots, many - 1} {
				roots := make([]int, many)
				roots[at] = word
				wantNone(t, "too many", h, roots, good, api.ErrFull)
				wantNone(t, "too many, a wrong heap", bad, roots, good, api.ErrFull)
			}
		}
	}
	for _, n := range wrongNumbers() {
		wantNone(t, "too many, wrong numbers", h, make([]int, maxRoots+1), n, api.ErrFull)
		wantNone(t, "too many, all wrong", bad, slices.Repeat([]int{-1}, maxRoots+1), n, api.ErrFull)
	}
}

// P15.1: New of a root below 0, at each place: ErrRange, also where another root, or the heap, leads astray.
func TestNewBelow(t *testing.T) {
	h, roots := plans()[0].build(t)
	bad := astray(t)
	for _, word := range []int{-1, -2, -most, -1 << 32, 1 - 1<<32, math.MinInt, math.MinInt + 1} {
		for at := range len(roots) + 1 {
			l := slices.Insert(slices.Clone(roots), at, word)
			wantNone(t, "below 0", h, l, good, api.ErrRange)
			wantNone(t, "below 0, a wrong heap", bad, l, good, api.ErrRange)
			wantNone(t, "below 0, behind a wrong one", h, append([]int{2}, l...), good, api.ErrRange)
			wantNone(t, "below 0, ahead of a wrong one", h, append(l, 2), good, api.ErrRange)
		}
		full := make([]int, maxRoots)
		full[maxRoots-1] = word
		wantNone(t, "below 0, the last one that there may be", h, full, good, api.ErrRange)
		wantNone(t, "below 0, alone", h, []int{word}, good, api.ErrRange)
	}
	for _, n := range wrongNumbers() {
		wantNone(t, "below 0, wrong numbers", h, []int{-1}, n, api.ErrRange)
	}
}

// P15.1: New of numbers that may not be: ErrRange, also ahead of what a root or the heap that leads astray is told by.
func TestNewNumbers(t *testing.T) {
	h, roots := plans()[0].build(t)
	bad := astray(t)
	for _, n := range wrongNumbers() {
		wantNone(t, "wrong numbers", h, roots, n, api.ErrRange)
		wantNone(t, "wrong numbers, no roots", h, nil, n, api.ErrRange)
		wantNone(t, "wrong numbers, a wrong root", h, []int{2}, n, api.ErrRange)
		wantNone(t, "wrong numbers, a wrong heap", bad, nil, n, api.ErrRange)
	}
}

// P15.1: New of a root that leads to no object, or to a filler, at each place: ErrRef.
func TestNewRoot(t *testing.T) {
	p := plans()[0]
	h, roots := p.build(t)
	var right []int
	for at, x := range h.Walk() {
		if x.Kind != filler {
			right = append(right, at+1)
		}
	}
	words := []int{h.Size() + 1, most, most + 1, 1 << 31, 1 << 32, 1<<32 + right[0], math.MaxInt - 1, math.MaxInt}
	for word := range h.Size() + 1 {
		if word > 0 && !slices.Contains(right, word) {
			words = append(words, word)
		}
	}
	for _, word := range words {
		for at := range len(roots) + 1 {
			wantNone(t, fmt.Sprintf("a root of %d", word), h, slices.Insert(slices.Clone(roots), at, word), good, api.ErrRef)
		}
		for _, n := range someNumbers() {
			wantNone(t, fmt.Sprintf("a root of %d alone", word), h, []int{word}, n, api.ErrRef)
		}
	}
	if len(right) < 10 || len(words) < 30 {
		t.Errorf("%d right, %d wrong", len(right), len(words))
	}
	begin(t, "all that may be", h, right, good).plainly()
}

// P15.1: New of a heap with a reference that leads astray, whether that is reached or not: ErrRef; of a word that is no reference that is nothing to anyone.
func TestNewHeap(t *testing.T) {
	h, roots := plans()[0].build(t)
	wrong := 0
	for at, x := range h.Walk() {
		for field := range x.Length {
			for _, word := range []int{2, h.Top() + 1, most, most + 1, -1, math.MinInt, math.MaxInt} {
				words := h.Words()
				words[at+1+field] = word
				other, e := heap.Of(words, h.Top())
				if e != api.OK {
					t.Fatalf("heap.Of: %d", e)
				}
				if x.Kind == filler || field >= x.Pointers {
					begin(t, "a word that looks wrong", other, roots, good).plainly()
					continue
				}
				wrong++
				wantNone(t, "a wrong heap", other, roots, good, api.ErrRef)
				wantNone(t, "a wrong heap, no roots", other, nil, good, api.ErrRef)
			}
		}
	}
	if wrong < 100 {
		t.Errorf("only %d led astray", wrong)
	}
}

// P15.1: Step of workers that there aren't, ahead of each step, and behind the end.
func TestStepOfNoWorker(t *testing.T) {
	for _, p := range plans()[:4] {
		for _, n := range someNumbers() {
			x := beginPlan(t, p, n)
			for i := 0; !x.over() && i < 4000; i++ {
				x.wantNoWorker()
				for _, who := range far[:3] {
					if e := x.c.Step(who, i); e != api.ErrRange {
						t.Fatalf("%s: Step(%d): %d", x.name, who, e)
					}
				}
				x.step(i%n.Workers, i)
			}
			x.plainly()
			for _, who := range append([]int{n.Workers}, far...) {
				if e := x.c.Step(who, 0); e != api.ErrRange {
					t.Fatalf("%s: Step(%d) behind the end: %d", x.name, who, e)
				}
			}
		}
	}
}

// P15.1: with whatever draws: each alone, and all of them in turn.
func TestDraws(t *testing.T) {
	for _, workers := range []int{1, 2, 3, 7, maxWorkers} {
		n := phase.Config{Workers: workers, Room: 3, Chunk: 2, Part: 1, Region: 4}
		p := &plan{name: "draws", things: star(20), roots: []int{1, 0, 4}}
		for _, draw := range append(farDraws, far...) {
			x := beginPlan(t, p, n)
			x.finish(inTurn(workers), func() int { return draw })
		}
		x := beginPlan(t, p, n)
		x.finish(inTurn(workers), func() int { return farDraws[x.steps%len(farDraws)] })
	}
}

// P15.1, R6: the list of roots isn't kept, and isn't written to, its spare room neither; nor is what was answered kept.
func TestRootsList(t *testing.T) {
	p := plans()[0]
	h, roots := p.build(t)
	for _, turn := range []int{0, 1, 20, 100} {
		all := append(slices.Clone(roots), -5, -6, -7)
		x := begin(t, "roots", h, all[:len(roots)], good)
		for i := range turn {
			x.step(i%2, 0)
		}
		for i := range all {
			all[i] = -100 - i
		}
		copy(x.roots, all)
		x.plainly()
		if !slices.Equal(all[len(roots):], []int{-100 - len(roots), -101 - len(roots), -102 - len(roots)}) {
			t.Fatalf("the spare room of the roots is another: %v", all)
		}
	}
}

// P3: the ways of its marking are the collection's: what is marked so far, what work there is, how many touches there were, and whether marking, not the collection, is over.
func TestPromoted(t *testing.T) {
	x := beginPlan(t, plans()[0], good)
	if x.c.Over() || x.c.Touches() != 0 || x.c.Work() != 0 || x.c.Marks().Size() != x.h.Size() {
		t.Fatalf("a new one: over %t, %d touches, work %d", x.c.Over(), x.c.Touches(), x.c.Work())
	}
	touches, worked := 0, 0
	for i := 0; !x.over() && i < 2*x.rounds(); i++ {
		marks := slices.Collect(x.c.Marks().All())
		if x.c.Over() != (x.phase > 1) || len(marks) != x.marked {
			t.Fatalf("%s: step %d: phase %d, over %t, %v, %d marked", x.name, x.steps, x.phase, x.c.Over(), marks, x.marked)
		}
		touches = x.c.Touches()
		worked = max(worked, x.c.Work())
		slides := x.phase == 2
		x.step(i%2, i)
		if slides && x.c.Touches() != touches {
			t.Fatalf("%s: step %d: %d touches of marking in a step of sliding", x.name, x.steps, x.c.Touches()-touches)
		}
	}
	x.wantEnd()
	if touches < x.marked || worked == 0 {
		t.Errorf("%s: %d touches, work %d at most", x.name, touches, worked)
	}
}

// P15.1: each step is that of what goes on, with its draw: a marking, and then a sliding of what it marked, of the same numbers go the same way, step by step.
func TestStepsOfWhatGoesOn(t *testing.T) {
	drawsMatter := 0
	for seed := range 60 {
		draw := rand.New(rand.NewSource(int64(seed)))
		p := plans()[seed%len(plans())]
		n := phase.Config{Workers: 3 + seed%6, Room: 2 + seed%3, Chunk: 1 + seed%2, Part: 2, Region: 2 + seed%4}
		x := beginPlan(t, p, n)
		m, other := markingOf(t, x), markingOf(t, x)
		for range 100000 {
			if m.Over() {
				break
			}
			who, by := draw.Intn(n.Workers), draw.Int()-draw.Int()
			x.step(who, by)
			m.Step(who, by)
			other.Step(who, 0)
			if x.c.Touches() != m.Touches() || x.c.Work() != m.Work() || x.c.Over() != m.Over() || !slices.Equal(slices.Collect(x.c.Marks().All()), slices.Collect(m.Marks().All())) {
				t.Fatalf("%s: step %d: %d touches, work %d, over %t, a marking has %d, %d, %t", x.name, x.steps, x.c.Touches(), x.c.Work(), x.c.Over(), m.Touches(), m.Work(), m.Over())
			}
		}
		if other.Touches() != m.Touches() || !other.Over() {
			drawsMatter++
		}
		s, e := slider.New(x.h, m.Marks(), n.Region, n.Workers)
		if e != api.OK {
			t.Fatalf("%s: slider.New: %d", x.name, e)
		}
		for range 100000 {
			if s.Over() {
				break
			}
			who := draw.Intn(n.Workers)
			x.step(who, draw.Int())
			s.Step(who)
			if x.moved != s.Moved() || x.over() != s.Over() {
				t.Fatalf("%s: step %d: %d moved, over %t, a sliding has %d, %t", x.name, x.steps, x.moved, x.over(), s.Moved(), s.Over())
			}
		}
		x.wantEnd()
	}
	if drawsMatter < 20 {
		t.Errorf("only %d times the draws made a difference", drawsMatter)
	}
}

// markingOf: one of a run's heap and roots, by its numbers.
func markingOf(t *testing.T, x *run) *marker.Marking {
	t.Helper()
	r := roots.New(x.n.Part)
	for _, word := range x.roots {
		r.Push(word)
	}
	m, e := marker.New(x.h, r, x.n.Workers, x.n.Room, x.n.Chunk)
	if e != api.OK {
		t.Fatalf("%s: marker.New: %d", x.name, e)
	}
	return m
}

// P15.1: collections of the same heap hang on one another in nothing.
func TestSeveralAtOnce(t *testing.T) {
	h, roots := plans()[0].build(t)
	for seed := range 100 {
		draw := rand.New(rand.NewSource(int64(seed)))
		l := []*run{
			begin(t, "one", h, roots, someNumbers()[seed%5]),
			begin(t, "two", h, roots, someNumbers()[2+seed%3]),
			begin(t, "without roots", h, nil, good),
		}
		for range 3000 {
			x := l[draw.Intn(len(l))]
			if !x.over() {
				x.step(draw.Intn(x.n.Workers), draw.Int())
			}
		}
		for _, x := range l {
			x.plainly()
		}
	}
}
