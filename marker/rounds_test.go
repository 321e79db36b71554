package marker_test

import (
	"math/rand"
	"slices"
	"testing"

	"besom/api"
)

// ordered: how each round's order comes about. What is found stands in x, step by step.
type ordered struct {
	name string
	make func(x *run, draw *rand.Rand) func() []int
}

// turned: the order of the round ahead of it, changed in some way.
func turned(change func(l []int)) func(x *run, draw *rand.Rand) func() []int {
	return func(x *run, _ *rand.Rand) func() []int {
		l := inTurn(x.workers)()
		return func() []int {
			change(l)
			return l
		}
	}
}

func orders() []ordered {
	return []ordered{
		{"same", turned(func([]int) {})},
		{"backward", turned(func() func(l []int) {
			done := false
			return func(l []int) {
				if !done {
					slices.Reverse(l)
				}
				done = true
			}
		}())},
		{"there and back", turned(slices.Reverse[[]int])},
		{"the first one last", turned(func(l []int) { slices.Reverse(l[1:]); slices.Reverse(l) })},
		{"the last one first", turned(func(l []int) { slices.Reverse(l); slices.Reverse(l[1:]) })},
		{"drawn", func(x *run, draw *rand.Rand) func() []int {
			return func() []int { return draw.Perm(x.workers) }
		}},
	}
}

// P11.4: whatever the order of each round: as many rounds as the chapter tells are enough, for few and many workers, where the heaps are small and where there is much to be handed on.
func TestRounds(t *testing.T) {
	for i, p := range plans() {
		for j, o := range orders() {
			for _, n := range []numbers{{1, 2, 1, 1}, {2, 2, 1, 1}, {4, 3, 2, 1}, {maxWorkers, 2, 1, 1}} {
				draw := rand.New(rand.NewSource(int64(100*i + j)))
				kinds := drawKinds(draw)
				x := newRun(t, p, n)
				x.name += ", " + o.name
				x.finish(o.make(x, draw), kinds[(i+j)%len(kinds)])
			}
		}
	}
}

// P11.4: the same, counted from whenever on: one worker is ahead of all others by so many steps, which may have found nothing yet, or all, or may have ended in the middle of handing a task on, while all others must wait for it.
func TestRoundsOneAhead(t *testing.T) {
	os := orders()
	for i, p := range []*plan{star(12), stars(3, 6), tree(20), rooted(9), unreached(4)} {
		for _, workers := range []int{1, 2, 3, maxWorkers} {
			for ahead := range 150 {
				if workers == maxWorkers && ahead%10 != i {
					continue
				}
				draw := rand.New(rand.NewSource(int64(ahead)))
				x := newRun(t, p, numbers{workers, 2, 1, 2})
				for range ahead {
					if !x.m.Over() {
						x.step(ahead%workers, ahead)
					}
				}
				x.finish(os[ahead%len(os)].make(x, draw), draw.Int)
			}
		}
	}
}

// P11.4: two are ahead of all others; each stands after so many steps, at all places of its way: where it has what others wait for, too.
func TestRoundsTwoAhead(t *testing.T) {
	os := orders()
	for first := 0; first < 64; first++ {
		for second := 0; second < 64; second += 3 {
			draw := rand.New(rand.NewSource(int64(64*first + second)))
			p := stars(2, 7)
			p.roots = []int{1, 2}
			x := newRun(t, p, numbers{3, 2, 1, 1})
			for range first {
				x.step(0, 0)
			}
			for range second {
				x.step(1, 0)
			}
			x.finish(os[(first+second)%len(os)].make(x, draw), draw.Int)
		}
	}
}

// P11.4: somebody stands at each place of its way while all others go on for long, in vain perhaps, but each of their steps is OK; and then the rounds begin.
func TestRoundsOneStands(t *testing.T) {
	os := orders()
	for _, workers := range []int{2, 3, 9, maxWorkers} {
		for stands := 0; stands < 120; stands += 1 + workers/8 {
			draw := rand.New(rand.NewSource(int64(stands)))
			p := star(14)
			p.roots = []int{1, 2, 0, 3}
			x := newRun(t, p, numbers{workers, 2, 1, 1})
			for range stands {
				x.step(0, stands)
			}
			for range 60 * workers {
				x.step(1+draw.Intn(workers-1), draw.Int())
			}
			x.finish(os[stands%len(os)].make(x, draw), draw.Int)
		}
	}
}

// P11.4: behind any beginning: some go ahead by draws, some stand, others look for work again and again.
func TestRoundsFromAnywhere(t *testing.T) {
	os := orders()
	for seed := range 1200 {
		draw := rand.New(rand.NewSource(int64(seed)))
		p := drawn(draw, 1+draw.Intn(25))
		if seed%3 == 0 {
			p = star(2 + draw.Intn(20))
		}
		n := numbers{1 + draw.Intn(5), 2 + draw.Intn(2), 1 + draw.Intn(2), 1 + draw.Intn(3)}
		if seed%100 == 0 {
			n.workers = maxWorkers
		}
		x := newRun(t, p, n)
		who := 0
		for range draw.Intn(400) {
			if x.m.Over() {
				break
			}
			if draw.Intn(8) == 0 {
				who = draw.Intn(n.workers)
			}
			x.step(who, draw.Int())
		}
		x.finish(os[seed%len(os)].make(x, draw), drawKinds(draw)[seed%7])
	}
}

// P11.4: an order that is meant to hinder: whoever found something of late is always behind, or always ahead of, all those who look for something.
func TestRoundsHindered(t *testing.T) {
	for _, p := range []*plan{row(30), star(40), stars(4, 12), tree(50)} {
		for _, workers := range []int{2, 3, 8, maxWorkers} {
			for _, ahead := range []int{-1, 1} {
				x := newRun(t, p, numbers{workers, 2, 1, 1})
				latest := make([]int, workers)
				l := inTurn(workers)()
				for round := 0; !x.m.Over(); round++ {
					if round == x.rounds() {
						t.Fatalf("%s: it isn't over in %d rounds", x.name, round)
					}
					slices.SortStableFunc(l, func(a, b int) int { return ahead * (latest[b] - latest[a]) })
					for _, who := range l {
						if x.m.Over() {
							break
						}
						if x.step(who, who+round) >= 0 {
							latest[who] = x.steps
						}
					}
				}
				x.wantFound()
			}
		}
	}
}

// P11.4: as many rounds as the chapter tells are enough for the least that there is, too.
func TestRoundsOfLittle(t *testing.T) {
	for workers := 1; workers <= maxWorkers; workers++ {
		for _, p := range []*plan{none(0), none(1), row(1), unreached(1), {name: "one word", heads: []api.Head{{}}, refs: [][]int{nil}, roots: []int{1}}} {
			draw := rand.New(rand.NewSource(int64(workers)))
			for _, o := range orders() {
				x := newRun(t, p, numbers{workers, 2, 1, 1})
				x.finish(o.make(x, draw), draw.Int)
			}
		}
	}
}
