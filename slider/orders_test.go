package slider_test

import (
	"fmt"
	"math/rand"
	"slices"
	"testing"

	"besom/api"
)

// schedule: who steps next.
type schedule struct {
	name string
	next func() int
}

// schedules: of so many workers. By some of them one stands for ever, if there are others, as long as these go on: they are for what comes ahead of the rounds.
func schedules(workers int, draw *rand.Rand) []schedule {
	i := -1
	turn := func() int { i++; return i % workers }
	last, burst := 0, 0
	return []schedule{
		{"in turn", turn},
		{"backwards", func() int { return workers - 1 - turn() }},
		{"drawn", func() int { return draw.Intn(workers) }},
		{"in bursts", func() int {
			if burst--; burst < 0 {
				last, burst = draw.Intn(workers), draw.Intn(30)
			}
			return last
		}},
		{"one seldom", func() int {
			if draw.Intn(50) == 0 {
				return 0
			}
			return draw.Intn(workers)
		}},
		{"one nearly alone", func() int {
			if draw.Intn(20) == 0 {
				return draw.Intn(workers)
			}
			return workers - 1
		}},
		{"the later the seldomer", func() int {
			who := 0
			for who < workers-1 && draw.Intn(3) > 0 {
				who++
			}
			return who
		}},
	}
}

// play: as the schedule says, for so many steps, unless it is over ahead of that.
func (x *run) play(next func() int, steps int) {
	for range steps {
		if x.s.Over() {
			return
		}
		x.step(next())
	}
}

// orders: of each round; the one of the round ahead of it, changed in some way, or drawn.
func orders(workers int, draw *rand.Rand) []func() []int {
	turned := func(change func(l []int)) func() []int {
		l := slices.Clone(inTurn(workers)())
		return func() []int {
			change(l)
			return l
		}
	}
	backward := slices.Clone(inTurn(workers)())
	slices.Reverse(backward)
	return []func() []int{
		inTurn(workers),
		func() []int { return backward },
		turned(slices.Reverse[[]int]),
		turned(func(l []int) { slices.Reverse(l[1:]); slices.Reverse(l) }),
		func() []int { return draw.Perm(workers) },
	}
}

// P14.2, P14.3: heaps of all kinds, by all schedules, with few and with many workers, in regions of several sizes: what comes of it hangs on none of that.
func TestSchedules(t *testing.T) {
	for i, p := range plans() {
		h, m := p.build(t)
		for _, words := range []int{2, 3, 5, 16} {
			for _, workers := range []int{1, 2, 3, 6, maxWorkers} {
				draw := rand.New(rand.NewSource(int64(i)))
				for _, s := range schedules(workers, draw) {
					x := begin(t, fmt.Sprintf("%s, regions of %d, %d workers, %s", p.name, words, workers, s.name), h, m, words, workers)
					x.play(s.next, 100000)
					x.wantEnd()
				}
			}
		}
	}
}

// P14.1, P14.2: heaps that are drawn, in regions and by schedules that are drawn too.
func TestDrawn(t *testing.T) {
	crossed, turned, kept := 0, 0, 0
	for seed := range 3000 {
		draw := rand.New(rand.NewSource(int64(seed)))
		p := drawn(draw, 1+draw.Intn(small-16), 1+draw.Intn(10), 1+draw.Intn(12))
		h, m := p.build(t)
		workers := 1 + draw.Intn(6)
		all := schedules(workers, draw)
		words := 2 + draw.Intn(1+draw.Intn(20))
		for range 3 {
			x := begin(t, fmt.Sprintf("seed %d", seed), h, m, words, workers)
			x.play(all[draw.Intn(len(all))].next, 100000)
			x.wantEnd()
			for _, o := range x.want.stays {
				if o.at/words != (o.at+o.room-1)/words {
					crossed++
				}
				if o.to == o.at {
					kept++
				}
				turned += o.pointers
			}
		}
	}
	if crossed < 5000 || turned < 5000 || kept < 3000 {
		t.Errorf("drawn too seldom: %d objects over a region's end, %d references, %d objects that go to where they are", crossed, turned, kept)
	}
}

// P14.3: whatever the order of each round: as many rounds as the chapter tells are enough.
func TestRounds(t *testing.T) {
	for i, p := range plans() {
		h, m := p.build(t)
		for _, words := range []int{2, 3, 7, most} {
			for _, workers := range []int{1, 2, 5, maxWorkers} {
				draw := rand.New(rand.NewSource(int64(i)))
				for j, order := range orders(workers, draw) {
					begin(t, fmt.Sprintf("%s, regions of %d, %d workers, order %d", p.name, words, workers, j), h, m, words, workers).finish(order)
				}
			}
		}
	}
}

// P14.3: the same, of each length of a row of objects of few words, a few words back, as there all hang on one another.
func TestRoundsOfRows(t *testing.T) {
	for length := range 3 {
		for back := 0; back <= 4; back++ {
			for n := 1; n <= 24; n++ {
				p := &plan{name: fmt.Sprintf("%d objects of %d words, %d back", n, length, back), things: append(many(back, dead(0)), many(n, live(length))...)}
				h, m := p.build(t)
				for words := 2; words <= 4; words++ {
					for _, workers := range []int{1, 2, 3, 17} {
						draw := rand.New(rand.NewSource(int64(n)))
						all := orders(workers, draw)
						begin(t, p.name, h, m, words, workers).finish(all[(n+words)%len(all)])
					}
				}
			}
		}
	}
}

// P14.3: the same, counted from whenever on: some are ahead by draws, in the middle of objects, of waiting, and of noughts.
func TestRoundsFromAnywhere(t *testing.T) {
	for seed := range 3000 {
		draw := rand.New(rand.NewSource(int64(seed)))
		p := drawn(draw, 1+draw.Intn(small-16), 3+draw.Intn(8), draw.Intn(7))
		h, m := p.build(t)
		workers := 1 + draw.Intn(8)
		if seed%50 == 0 {
			workers = maxWorkers
		}
		x := begin(t, fmt.Sprintf("seed %d", seed), h, m, 2+draw.Intn(6), workers)
		all := schedules(workers, draw)
		x.play(all[seed%len(all)].next, draw.Intn(4*x.top+10))
		more := orders(workers, draw)
		if x.s.Over() {
			x.wantEnd()
		} else {
			x.finish(more[seed%len(more)])
		}
	}
}

// P14.3: one stands at each place of its way, while all others go on for long, in vain perhaps, but each of their steps is OK; when it goes on, all is as it should be.
func TestOneStands(t *testing.T) {
	stood := 0
	for i, p := range plans() {
		h, m := p.build(t)
		for _, workers := range []int{2, 3, 9} {
			for stands := 1; stands < 60; stands++ {
				draw := rand.New(rand.NewSource(int64(stands)))
				x := begin(t, fmt.Sprintf("%s, one stands behind %d steps", p.name, stands), h, m, 2+i%4, workers)
				x.play(func() int { return 0 }, stands)
				x.play(func() int { return 1 + draw.Intn(workers-1) }, rounds(x.top)*workers)
				if x.s.Over() {
					x.wantEnd()
					continue
				}
				stood++
				x.finish(inTurn(workers))
			}
		}
	}
	if stood < 500 {
		t.Errorf("only %d stood where others must wait", stood)
	}
}

// P14.3: whoever stands alone goes to the end alone, wherever others stand that haven't claimed anything, and the others can do nothing more.
func TestOneAlone(t *testing.T) {
	for _, p := range plans() {
		h, m := p.build(t)
		for who := range 3 {
			x := begin(t, p.name+", one alone", h, m, 2+who, 3)
			x.finish(func() []int { return []int{who} })
		}
	}
}

// everyOrder: runs something as often as there are rows of picks, each time with another one.
func everyOrder(run func(pick func(n int) int)) int {
	var path, wide []int
	for runs := 1; ; runs++ {
		at := 0
		run(func(n int) int {
			if at == len(path) {
				path, wide = append(path, 0), append(wide, n)
			}
			at++
			return path[at-1]
		})
		for len(path) > 0 && path[len(path)-1] == wide[len(path)-1]-1 {
			path, wide = path[:len(path)-1], wide[:len(path)-1]
		}
		if len(path) == 0 {
			return runs
		}
		path[len(path)-1]++
	}
}

// P14.2, P14.3: each order of so many steps of two or three workers, from several beginnings on, and then all in turn.
func TestEveryOrder(t *testing.T) {
	for _, c := range []struct {
		things         []thing
		words, workers int
		ahead, steps   int
	}{
		{[]thing{dead(0), live(0), live(0), live(0)}, 2, 2, 0, 13},
		{[]thing{dead(0), live(1, 3), live(0), live(1, 2)}, 2, 2, 0, 13},
		{[]thing{dead(0), live(0), live(0), live(0), live(0)}, 2, 3, 0, 8},
		{[]thing{dead(1), live(2), live(0), live(0), live(0)}, 2, 3, 4, 8},
		{[]thing{dead(2), live(0), live(0), live(0), live(0), live(0)}, 2, 2, 5, 13},
		{[]thing{live(0), fill(0), live(2, 5, 1), fill(0), live(0)}, 2, 2, 2, 13},
		{[]thing{dead(3), live(3), live(0), live(1)}, 3, 2, 8, 13},
	} {
		p := &plan{name: "every order", things: c.things}
		h, m := p.build(t)
		runs := everyOrder(func(pick func(n int) int) {
			x := begin(t, p.name, h, m, c.words, c.workers)
			x.play(func() int { return 0 }, c.ahead)
			x.play(func() int { return pick(c.workers) }, c.steps)
			if x.s.Over() {
				x.wantEnd()
			} else {
				x.finish(inTurn(c.workers))
			}
		})
		if runs < 1<<11 {
			t.Errorf("%v: only %d orders", c.things, runs)
		}
	}
}

// overlap: do these words have one in common?
func overlap(from, room, other, otherRoom int) bool {
	return from < other+otherRoom && other < from+room
}

// inTheWay: of how many other regions do objects go where this one stands?
func inTheWay(o object, stays []object, words int) int {
	regions := map[int]int{}
	for _, other := range stays {
		if other.at/words != o.at/words && overlap(o.at, o.room, other.to, other.room) {
			regions[other.at/words]++
		}
	}
	return len(regions)
}

// ofRegion: those that begin in it.
func ofRegion(k int, stays []object, words int) []object {
	return slices.DeleteFunc(slices.Clone(stays), func(o object) bool { return o.at/words != k })
}

// movable: how many objects of each region can be moved while one worker stands with so many of its region's moved: all, unless something that can't be moved stands where that region's objects go.
func movable(stays []object, words, held, done int) map[int]int {
	stuck := ofRegion(held, stays, words)[done:]
	can := map[int]int{}
	for _, o := range stays {
		can[o.at/words]++
	}
	can[held] = done
	for again := true; again; {
		again = false
		for _, o := range stays {
			k := o.at / words
			inTheWay := func(other object) bool { return overlap(o.to, o.room, other.at, other.room) }
			if k != held && can[k] > 0 && slices.ContainsFunc(stuck, inTheWay) {
				can[k], again = 0, true
				stuck = append(stuck, ofRegion(k, stays, words)...)
			}
		}
	}
	return can
}

// P14.1: what a worker waits for: while one stands in the middle of an object, just those regions aren't moved where something that still is to be moved stands where their objects go, or which wait for such.
func TestWaits(t *testing.T) {
	waited, passed, midway := 0, 0, 0
	for seed := range 2000 {
		draw := rand.New(rand.NewSource(int64(seed)))
		p := drawn(draw, 8+draw.Intn(small-24), 6+draw.Intn(4), 1+draw.Intn(6))
		h, m := p.build(t)
		words := 2 + draw.Intn(9)
		x := begin(t, fmt.Sprintf("seed %d, regions of %d", seed, words), h, m, words, (h.Top()+words-1)/words)
		if len(x.want.stays) == 0 {
			continue
		}
		held := x.want.stays[draw.Intn(len(x.want.stays))].at / words
		mine := ofRegion(held, x.want.stays, words)
		done := draw.Intn(len(mine))
		moved := map[int]int{}
		step := func(who int) {
			if !x.s.Over() && x.step(who) {
				moved[who]++
			}
		}
		for who := range x.workers { // each claims the region of its number, as regions are claimed in order
			step(who)
		}
		for moved[held] < done {
			for who := range x.workers {
				if who != held || moved[held] < done {
					step(who)
				}
			}
		}
		if done > 0 {
			for range inTheWay(mine[done-1], x.want.stays, words) + draw.Intn(2) {
				step(held)
			}
		}
		for range rounds(x.top) {
			for who := range x.workers {
				if who != held {
					step(who)
				}
			}
		}
		can := movable(x.want.stays, words, held, done)
		for k := range x.s.Len() {
			if moved[k] != can[k] {
				t.Fatalf("%s: of region %d %d were moved, want %d, while region %d stands with %d of %d", x.name, k, moved[k], can[k], held, done, len(mine))
			}
			if k > held && x.s.Live(k) > 0 && can[k] == 0 {
				waited++
			}
			if k > held && can[k] > 0 {
				passed++
			}
		}
		if done > 0 {
			midway++
		}
		if !x.s.Over() {
			x.finish(inTurn(x.workers))
		}
	}
	if waited < 1000 || passed < 1000 || midway < 500 {
		t.Errorf("drawn too seldom: %d regions waited, %d didn't, %d stood with some of their objects moved", waited, passed, midway)
	}
}

// P14.3: a step of a worker that waits, or that has nothing left, is OK as often as it is taken, and moves nothing.
func TestWaitsForLong(t *testing.T) {
	p := &plan{name: "waits", things: []thing{dead(0), live(0), live(0), live(0), live(0), live(0)}}
	h, m := p.build(t)
	x := begin(t, p.name, h, m, 2, 5)
	x.step(0)
	for range 3000 {
		for who := 1; who < 5; who++ {
			x.step(who)
		}
	}
	if x.moved != 0 {
		t.Fatalf("%d moved past one that stands", x.moved)
	}
	x.finish(inTurn(5))
	if e := x.s.Step(0); e != api.ErrEnd {
		t.Fatalf("behind the end: %d", e)
	}
}
