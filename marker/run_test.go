package marker_test

import (
	"fmt"
	"math"
	"math/rand"
	"slices"
	"testing"

	"besom/api"
	"besom/heap"
	"besom/marker"
	"besom/marks"
	"besom/roots"
)

// numbers: what New takes beside the heap and the roots, and the size of parts.
type numbers struct{ workers, room, chunk, part int }

func (n numbers) String() string {
	return fmt.Sprintf("%d workers, room %d, chunk %d, part %d", n.workers, n.room, n.chunk, n.part)
}

// run: a marking that is watched at each step.
type run struct {
	t       *testing.T
	name    string
	h       *heap.Heap
	r       *roots.Roots
	m       *marker.Marking
	marks   *marks.Map
	workers int
	want    []int // what a plain search reaches
	words   []int
	roots   []int
	marked  int
	touches int
	steps   int
	peak    int // the most tasks that were told
}

func newRun(t *testing.T, p *plan, n numbers) *run {
	t.Helper()
	h, r := p.build(t, n.part)
	return runOf(t, p.name+", "+n.String(), h, r, n)
}

func runOf(t *testing.T, name string, h *heap.Heap, r *roots.Roots, n numbers) *run {
	t.Helper()
	words, all := h.Words(), r.All()
	m, e := marker.New(h, r, n.workers, n.room, n.chunk)
	if m == nil || e != api.OK {
		t.Fatalf("%s: New: %v, %d", name, m, e)
	}
	x := &run{t: t, name: name, h: h, r: r, m: m, marks: m.Marks(), workers: n.workers, want: reached(h, r), words: words, roots: all}
	if x.marks == nil || x.marks.Size() != h.Size() {
		t.Fatalf("%s: marks of another size than the heap's, %d", name, h.Size())
	}
	if c := x.count(); m.Over() || c != 0 || m.Work() != 0 || m.Touches() != 0 || m.Steps() != 0 || len(r.Log()) != 0 {
		t.Fatalf("%s: a new one: over %t, %d marked, work %d, %d touches, %d steps, %d claims", name, m.Over(), c, m.Work(), m.Touches(), m.Steps(), len(r.Log()))
	}
	x.wantKept()
	return x
}

func (x *run) count() int {
	n, e := x.marks.Count(0, x.marks.Size())
	if e != api.OK {
		x.t.Fatalf("%s: Count: %d", x.name, e)
	}
	return n
}

// step: a step of a worker that there is, ahead of the end; what it marked, or -1. (It isn't told to be a helper, as that takes longer than all else.)
func (x *run) step(who, draw int) int {
	if e := x.m.Step(who, draw); e != api.OK {
		x.t.Fatalf("%s: step %d, of worker %d, draw %d: %d", x.name, x.steps+1, who, draw, e)
	}
	x.steps++
	touches, marked := x.m.Touches()-x.touches, x.count()-x.marked
	if touches < 0 || touches > 1 || marked < 0 || marked > touches {
		x.t.Fatalf("%s: step %d: %d touches, %d marked", x.name, x.steps, touches, marked)
	}
	if x.m.Over() && (touches == 0 || marked > 0) {
		x.t.Fatalf("%s: step %d, the last one: %d touches, %d marked, though it touched the offer", x.name, x.steps, touches, marked)
	}
	if n := x.m.Steps(); n != x.steps {
		x.t.Fatalf("%s: Steps: %d, want %d", x.name, n, x.steps)
	}
	work := x.m.Work()
	if work < 0 {
		x.t.Fatalf("%s: step %d: work %d", x.name, x.steps, work)
	}
	x.peak = max(x.peak, work)
	x.touches += touches
	x.marked += marked
	if marked == 0 {
		return -1
	}
	return x.latest()
}

// latest: what was marked by the last step; all that is marked is reached. What was taken out of the list stands behind its end, so that it is looked at once only.
func (x *run) latest() int {
	rest := x.want[:len(x.want)-x.marked+1]
	for i, at := range rest {
		if x.marks.Has(at) {
			x.want = append(slices.Delete(x.want, i, i+1), at)
			return at
		}
	}
	x.t.Fatalf("%s: step %d marked what isn't reached: %v", x.name, x.steps, slices.Collect(x.marks.All()))
	return -1
}

// wantKept: the heap and the roots are as they were, and the marks are still the marking's own.
func (x *run) wantKept() {
	x.t.Helper()
	if !slices.Equal(x.h.Words(), x.words) || !slices.Equal(x.r.All(), x.roots) {
		x.t.Fatalf("%s: step %d: the heap or the roots are others", x.name, x.steps)
	}
	if x.m.Marks() != x.marks {
		x.t.Fatalf("%s: step %d: other marks", x.name, x.steps)
	}
}

// wantFound: it is over, all that is reached is marked, and there is no work.
func (x *run) wantFound() {
	x.t.Helper()
	got, want := slices.Collect(x.m.Marks().All()), slices.Sorted(slices.Values(x.want))
	if !x.m.Over() || x.m.Work() != 0 || !slices.Equal(got, want) {
		x.t.Fatalf("%s: over %t, work %d, marked %v, want %v", x.name, x.m.Over(), x.m.Work(), got, want)
	}
	if least := x.marked + len(x.r.Log()) + x.workers; x.m.Touches() < least {
		x.t.Fatalf("%s: %d touches, though of marks, roots and the offer alone there were %d", x.name, x.m.Touches(), least)
	}
	x.wantKept()
}

// rounds: so many that the chapter has them be enough.
func (x *run) rounds() int {
	return (400 + 20*x.workers) * (len(x.words) + len(x.roots) + 10)
}

// finish: each steps once a round, in the order that is told for it, until it is over.
func (x *run) finish(order func() []int, draw func() int) {
	most := x.rounds()
	for round := 0; !x.m.Over(); round++ {
		if round == most {
			x.t.Fatalf("%s: it isn't over in %d rounds", x.name, most)
		}
		for _, who := range order() {
			if x.m.Over() {
				break
			}
			x.step(who, draw())
		}
	}
	x.wantFound()
}

// inTurn: the same order in each round.
func inTurn(workers int) func() []int {
	l := make([]int, workers)
	for who := range l {
		l[who] = who
	}
	return func() []int { return l }
}

// schedule: who steps, as long as it is told, ahead of all in turn.
type schedule struct {
	name string
	pick func(i, workers int) (int, bool)
}

func schedules(draw *rand.Rand) []schedule {
	last := 0
	return []schedule{
		{"each in turn", func(i, workers int) (int, bool) { return 0, false }},
		{"the first one long alone", func(i, workers int) (int, bool) { return 0, i < 700 }},
		{"the last one alone, a little", func(i, workers int) (int, bool) { return workers - 1, i < 25 }},
		{"one long alone, then another one", func(i, workers int) (int, bool) { return i / 50 % workers, i < 400 }},
		{"by draws", func(i, workers int) (int, bool) { return draw.Intn(workers), i < 100000 }},
		{"by draws, many steps each", func(i, workers int) (int, bool) {
			if draw.Intn(40) == 0 || last >= workers {
				last = draw.Intn(workers)
			}
			return last, i < 100000
		}},
		{"two of them, and seldom the others", func(i, workers int) (int, bool) {
			if draw.Intn(30) == 0 {
				return draw.Intn(workers), i < 100000
			}
			return min(draw.Intn(2), workers-1), i < 100000
		}},
	}
}

// play: a schedule, and then all in turn, until it is over.
func (x *run) play(s schedule, draw func() int) {
	x.name += ", " + s.name
	for i := 0; !x.m.Over(); i++ {
		who, on := s.pick(i, x.workers)
		if !on {
			break
		}
		x.step(who, draw())
	}
	x.finish(inTurn(x.workers), draw)
}

// farDraws: such as no number of workers is.
var farDraws = []int{0, 1, -1, 63, 64, -64, 65, 1 << 32, -1 << 32, math.MinInt, math.MinInt + 1, math.MaxInt, math.MaxInt - 1}

// drawKinds: how a step's draw may come about.
func drawKinds(draw *rand.Rand) []func() int {
	k := 0
	return []func() int{
		func() int { return draw.Int() - draw.Int() },
		func() int { return 0 },
		func() int { k++; return k },
		func() int { k--; return k },
		func() int { return farDraws[draw.Intn(len(farDraws))] },
		func() int { return math.MinInt },
		func() int { return math.MaxInt },
	}
}
