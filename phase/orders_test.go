package phase_test

import (
	"fmt"
	"math/rand"
	"slices"
	"testing"

	"besom/phase"
)

// schedule: who steps next.
type schedule struct {
	name string
	next func() int
}

// schedules: of so many workers. By some of them others stand for ever, as long as one goes on: they are for what comes ahead of the rounds.
func schedules(workers int, draw *rand.Rand) []schedule {
	i := -1
	turn := func() int { i++; return i % workers }
	last, burst := 0, 0
	return []schedule{
		{"in turn", turn},
		{"backwards", func() int { return workers - 1 - turn() }},
		{"drawn", func() int { return draw.Intn(workers) }},
		{"in bursts", func() int {
			if burst--; burst < 0 {
				last, burst = draw.Intn(workers), draw.Intn(40)
			}
			return last
		}},
		{"one seldom", func() int {
			if draw.Intn(50) == 0 {
				return 0
			}
			return draw.Intn(workers)
		}},
		{"the later the seldomer", func() int {
			who := 0
			for who < workers-1 && draw.Intn(3) > 0 {
				who++
			}
			return who
		}},
		{"one alone", func() int { return 0 }},
		{"the last one alone", func() int { return workers - 1 }},
	}
}

// play: as the schedule says, for so many steps, unless it is over ahead of that.
func (x *run) play(next, draw func() int, steps int) {
	for range steps {
		if x.over() {
			return
		}
		x.step(next(), draw())
	}
}

// orders: of each round; the one of the round ahead of it, changed in some way, or drawn.
func orders(workers int, draw *rand.Rand) []func() []int {
	turned := func(change func(l []int)) func() []int {
		l := slices.Clone(inTurn(workers)())
		return func() []int {
			change(l)
			return l
		}
	}
	backward := slices.Clone(inTurn(workers)())
	slices.Reverse(backward)
	return []func() []int{
		inTurn(workers),
		func() []int { return backward },
		turned(slices.Reverse[[]int]),
		turned(func(l []int) { slices.Reverse(l[1:]); slices.Reverse(l) }),
		func() []int { return draw.Perm(workers) },
	}
}

// draws: how a step's draw may come about.
func draws(x *run, draw *rand.Rand) []func() int {
	return []func() int{
		func() int { return draw.Int() - draw.Int() },
		func() int { return 0 },
		x.ordinal,
		func() int { return -x.steps },
		func() int { return farDraws[draw.Intn(len(farDraws))] },
	}
}

// P15.2, P15.3: heaps and roots of all kinds, by all schedules, and then round by round, by numbers of all kinds: what comes of it hangs on none of that.
func TestSchedules(t *testing.T) {
	for i, p := range plans() {
		for j, n := range someNumbers() {
			draw := rand.New(rand.NewSource(int64(100*i + j)))
			rest := orders(n.Workers, draw)
			for k, s := range schedules(n.Workers, draw) {
				x := beginPlan(t, p, n)
				x.name += ", " + s.name
				by := draws(x, draw)
				by = append(by[k%len(by):], by...)
				x.play(s.next, by[0], 1500)
				x.finish(rest[(i+j+k)%len(rest)], by[1])
			}
		}
	}
}

// numbersBy: by draws, small and great ones.
func numbersBy(draw *rand.Rand) phase.Config {
	some := func(least, most int) int {
		if draw.Intn(3) == 0 {
			return least + draw.Intn(most-least+1)
		}
		return least + draw.Intn(min(6, most-least+1))
	}
	n := phase.Config{Workers: some(1, maxWorkers), Room: some(2, maxRoom), Chunk: some(1, maxChunk), Part: some(1, maxPart), Region: some(2, 200)}
	if draw.Intn(20) == 0 {
		n.Part, n.Region = far[draw.Intn(len(far))], far[draw.Intn(len(far))]
	}
	return n
}

// P15.1 to P15.3: heaps, roots, numbers, schedules and draws that are drawn: each heap is collected three times.
func TestDrawn(t *testing.T) {
	marked, left, turned, rooted := 0, 0, 0, 0
	for seed := range 700 {
		draw := rand.New(rand.NewSource(int64(seed)))
		p := drawn(draw, 1+draw.Intn(small-16))
		h, roots := p.build(t)
		for range 3 {
			x := begin(t, fmt.Sprintf("seed %d", seed), h, roots, numbersBy(draw))
			all, rest, by := schedules(x.n.Workers, draw), orders(x.n.Workers, draw), draws(x, draw)
			x.play(all[draw.Intn(len(all))].next, by[draw.Intn(len(by))], draw.Intn(1200))
			x.finishEnded(rest[draw.Intn(len(rest))], by[draw.Intn(len(by))])
			marked += x.marked
			left += x.top - x.want.top
			for i, word := range x.want.roots {
				if word != roots[i] {
					rooted++
				}
			}
			for i, word := range x.want.words[:x.want.top] {
				if word != x.words[i] {
					turned++
				}
			}
		}
	}
	if marked < 5000 || left < 5000 || turned < 5000 || rooted < 1000 {
		t.Errorf("drawn too seldom: %d objects, %d words left, %d words that are others, %d roots", marked, left, turned, rooted)
	}
}

// finishEnded: finish, of what may be over already.
func (x *run) finishEnded(order func() []int, draw func() int) {
	x.t.Helper()
	if x.over() {
		x.wantEnd()
		return
	}
	x.finish(order, draw)
}

// P15.3: a collection of what a collection left, with the roots that it left, by other numbers, changes nothing: nor do its marking and sliding find or move anything else.
func TestAgain(t *testing.T) {
	again := func(x *run, n phase.Config) {
		h, roots, _ := x.c.Result()
		y := begin(t, x.name+", once more", h, roots, n)
		y.plainly()
		last, l, _ := y.c.Result()
		if !slices.Equal(last.Words(), x.want.words) || last.Top() != x.want.top || !slices.Equal(l, x.want.roots) || y.c.Marked() != x.c.Marked() || y.c.Moved() != x.c.Moved() {
			t.Fatalf("%s: once more: %v, top %d, roots %v, %d marked, want %v, %d, %v, %d", x.name, last.Words(), last.Top(), l, y.c.Marked(), x.want.words, x.want.top, x.want.roots, x.c.Marked())
		}
	}
	for _, p := range plans() {
		for i, n := range someNumbers() {
			x := beginPlan(t, p, n)
			x.plainly()
			again(x, someNumbers()[len(someNumbers())-1-i])
		}
	}
	for seed := range 300 {
		draw := rand.New(rand.NewSource(int64(seed)))
		x := beginPlan(t, drawn(draw, 1+draw.Intn(small)), numbersBy(draw))
		x.plainly()
		again(x, numbersBy(draw))
	}
}

// P15.2, P15.3: one stands at each place of its way, through marking and sliding, while all others go on for long, in vain perhaps, but each of their steps is OK; when it goes on, all is as it should be.
func TestOneStands(t *testing.T) {
	stood := map[int]int{}
	for i, p := range plans() {
		for _, workers := range []int{2, 3, 9} {
			n := phase.Config{Workers: workers, Room: 2, Chunk: 1 + i%3, Part: 1 + i%2, Region: 2 + i%4}
			for stands := 0; stands < 300; stands += 7 {
				draw := rand.New(rand.NewSource(int64(stands)))
				x := beginPlan(t, p, n)
				x.play(func() int { return x.steps % workers }, x.ordinal, stands)
				x.play(func() int { return 1 + draw.Intn(workers-1) }, draw.Int, 400*workers)
				if !x.over() {
					stood[x.phase]++
				}
				x.finishEnded(inTurn(workers), draw.Int)
			}
		}
	}
	if stood[1] < 500 || stood[2] < 100 {
		t.Errorf("drawn too seldom: %v stood", stood)
	}
}

// P15.2: as long as somebody didn't step at all marking isn't over, and nothing is moved, however long the others go on.
func TestNotWithoutAll(t *testing.T) {
	for _, p := range plans() {
		for _, one := range []int{0, 1, 3} {
			n := phase.Config{Workers: 4, Room: 2, Chunk: 1, Part: 1, Region: 2}
			x := beginPlan(t, p, n)
			x.play(func() int { return (one + 1 + x.steps%3) % 4 }, x.ordinal, 4000)
			if x.phase != 1 || x.moved != 0 {
				t.Fatalf("%s: phase %d, %d moved, without a step of worker %d", x.name, x.phase, x.moved, one)
			}
			x.plainly()
		}
	}
}

// P15.2: who ends marking, and who slides, may be whoever: the last one alone goes on behind the end of marking, and comes to the end, wherever the others stand.
func TestOneSlidesAlone(t *testing.T) {
	for _, p := range plans() {
		for who := range 3 {
			n := phase.Config{Workers: 3, Room: 2, Chunk: 2, Part: 2, Region: 2 + who}
			x := beginPlan(t, p, n)
			for i := 0; x.phase == 1 && i < 3*x.rounds(); i++ {
				x.step(i%3, i)
			}
			x.finishEnded(func() []int { return []int{who} }, x.ordinal)
		}
	}
}

// everyOrder: runs something as often as there are rows of picks, each time with another one.
func everyOrder(run func(pick func(n int) int)) int {
	var path, wide []int
	for runs := 1; ; runs++ {
		at := 0
		run(func(n int) int {
			if at == len(path) {
				path, wide = append(path, 0), append(wide, n)
			}
			at++
			return path[at-1]
		})
		for len(path) > 0 && path[len(path)-1] == wide[len(path)-1]-1 {
			path, wide = path[:len(path)-1], wide[:len(path)-1]
		}
		if len(path) == 0 {
			return runs
		}
		path[len(path)-1]++
	}
}

// P15.2, P15.3: each order of so many steps of two or three workers, from the beginning on, and from shortly ahead of the end of marking, over to sliding, and then all in turn.
func TestEveryOrder(t *testing.T) {
	things := []thing{object(0), object(2, 4, 2), fill(0), object(1, 2), object(0)}
	for _, n := range []phase.Config{{Workers: 2, Room: 2, Chunk: 1, Part: 1, Region: 2}, {Workers: 3, Room: 2, Chunk: 2, Part: 2, Region: 3}} {
		for _, roots := range [][]int{nil, {0, 4}} {
			p := &plan{name: "every order", things: things, roots: roots, spare: 1}
			marking, all := borders(t, p, n)
			for _, ahead := range []int{0, marking / 2, marking - 8, marking - 4, marking, all - 5} {
				steps, changed := []int{0, 0, 10, 6}[n.Workers], 0
				runs := everyOrder(func(pick func(n int) int) {
					x := beginPlan(t, p, n)
					x.play(func() int { return x.steps % n.Workers }, func() int { return 0 }, ahead)
					was := x.phase
					x.play(func() int { return pick(n.Workers) }, x.ordinal, steps)
					if x.phase != was {
						changed++
					}
					x.finishEnded(inTurn(n.Workers), x.ordinal)
				})
				if runs < 2 || ahead == marking-4 && changed == 0 {
					t.Errorf("%d workers, %d steps ahead: %d orders, in %d of them the phase changed", n.Workers, ahead, runs, changed)
				}
			}
		}
	}
}

// P4: round by round, in whatever order, counted from whenever on: as many rounds as chapters 11 and 14 tell, together, are enough.
func TestRoundsFromAnywhere(t *testing.T) {
	from := map[int]int{}
	for seed := range 900 {
		draw := rand.New(rand.NewSource(int64(seed)))
		n := phase.Config{Workers: 1 + draw.Intn(6), Room: 2 + draw.Intn(3), Chunk: 1 + draw.Intn(3), Part: 1 + draw.Intn(3), Region: 2 + draw.Intn(6)}
		if seed%60 == 0 {
			n.Workers = maxWorkers
		}
		x := beginPlan(t, drawn(draw, 1+draw.Intn(small-16)), n)
		all, by := schedules(n.Workers, draw), draws(x, draw)
		x.play(all[seed%len(all)].next, by[seed%len(by)], draw.Intn(900))
		from[x.phase]++
		more := orders(n.Workers, draw)
		x.finishEnded(more[seed%len(more)], by[draw.Intn(len(by))])
	}
	if from[1] < 100 || from[2] < 50 || from[3] < 50 {
		t.Errorf("drawn too seldom: from %v", from)
	}
}
