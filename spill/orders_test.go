package spill_test

import (
	"math/rand"
	"slices"
	"testing"
)

// noEnd: of steps in vain.
const noEnd = 1 << 40

// everyOrder: runs something as often as there are rows of picks, each time with another one.
func everyOrder(run func(pick func(n int) int)) int {
	var path, wide []int
	for runs := 1; ; runs++ {
		at := 0
		run(func(n int) int {
			if at == len(path) {
				path, wide = append(path, 0), append(wide, n)
			}
			at++
			return path[at-1]
		})
		for len(path) > 0 && path[len(path)-1] == wide[len(path)-1]-1 {
			path, wide = path[:len(path)-1], wide[:len(path)-1]
		}
		if len(path) == 0 {
			return runs
		}
		path[len(path)-1]++
	}
}

func repeated(kind string, n int) []string {
	var l []string
	for range n {
		l = append(l, kind)
	}
	return l
}

// wantMet: each end that the chapter names was met often enough, and steps in vain were.
func wantMet(t *testing.T, ends map[string]int) {
	t.Helper()
	for _, end := range []string{"put goes", "put full", "take goes", "take empty", "in vain"} {
		if ends[end] < 100 {
			t.Errorf("only %d times: %s", ends[end], end)
		}
	}
}

// P8.2, P8.1: all orders in which the steps of a few calls can be taken, with so many steps in vain beside each lock at most.
func TestEveryOrder(t *testing.T) {
	ends, orders := map[string]int{}, 0
	for _, x := range []struct {
		room, filled, vain int // words that are put ahead of all others
		kinds              [][]string
	}{
		{1, 0, 3, [][]string{{"put"}, {"take"}}},
		{1, 1, 3, [][]string{{"put"}, {"take"}}},
		{1, 0, 3, [][]string{{"put"}, {"put"}}},
		{1, 1, 3, [][]string{{"take"}, {"take"}}},
		{1, 0, 1, [][]string{{"put", "take"}, {"put", "take"}}},
		{2, 1, 1, [][]string{{"put", "put"}, {"take", "take"}}},
		{2, 2, 1, [][]string{{"take", "put"}, {"put", "take"}}},
		{1, 0, 1, [][]string{{"put"}, {"put"}, {"take"}}},
		{2, 1, 1, [][]string{{"take"}, {"put"}, {"take"}}},
		{3, 0, 1, [][]string{{"put"}, {"put"}, {"put"}}},
		{1, 1, 1, [][]string{{"take", "put"}, {"put"}, {"take"}}},
		{2, 0, 1, [][]string{{"put", "take"}, {"put"}, {"take"}}},
		{2, 1, 2, [][]string{{"put", "take"}, {"take", "put"}}},
	} {
		orders += everyOrder(func(pick func(n int) int) {
			r := newRace(t, x.room, ends)
			r.add(63, repeated("put", x.filled)...)
			r.run(noEnd, func(int) int { return 0 })
			r.workers = nil
			for who, kinds := range x.kinds {
				r.add(who, kinds...)
			}
			r.run(x.vain, pick)
		})
	}
	if orders < 50000 {
		t.Errorf("only %d orders", orders)
	}
	wantMet(t, ends)
}

// drawKinds: puts and takes, so many of a hundred puts.
func drawKinds(draw *rand.Rand, n, puts int) []string {
	var l []string
	for range n {
		if draw.Intn(100) < puts {
			l = append(l, "put")
		} else {
			l = append(l, "take")
		}
	}
	return l
}

// P8.2, P8.1: many calls of several workers, in orders that are drawn: even ones, and such where one worker goes on for long while others stand still in the middle of a call, with the lock or without.
func TestDrawnOrders(t *testing.T) {
	ends := map[string]int{}
	for seed := range 1500 {
		draw := rand.New(rand.NewSource(int64(seed)))
		r := newRace(t, 1+draw.Intn(6), ends)
		puts := 20 + draw.Intn(60)
		for i := range 2 + draw.Intn(5) {
			r.add((i*23+seed)%64, drawKinds(draw, 5+draw.Intn(25), puts)...)
		}
		stay, last := draw.Intn(100), 0
		r.run(noEnd, func(n int) int {
			if draw.Intn(100) >= stay || last >= n {
				last = draw.Intn(n)
			}
			return last
		})
	}
	wantMet(t, ends)
}

// P8.2: one worker alone puts, the others alone take, and the other way round, up to the edges.
func TestOneFeedsAll(t *testing.T) {
	ends := map[string]int{}
	for seed := range 200 {
		draw := rand.New(rand.NewSource(int64(seed)))
		one, others := "put", "take"
		if seed%2 == 1 {
			one, others = others, one
		}
		r := newRace(t, 1+seed%5, ends)
		r.add(0, repeated(one, 40)...)
		for who := 1; who < 5; who++ {
			r.add(who, repeated(others, 15)...)
		}
		r.run(noEnd, draw.Intn)
	}
	wantMet(t, ends)
}

// order: of a round, told behind the one of the round ahead of it.
type order struct {
	name string
	turn func([]*worker)
}

func orders(draw *rand.Rand) []order {
	return []order{
		{"same", func([]*worker) {}},
		{"backward", slices.Reverse[[]*worker]},
		{"the first one last", func(l []*worker) { slices.Reverse(l[1:]); slices.Reverse(l) }},
		{"drawn", func(l []*worker) { draw.Shuffle(len(l), func(i, j int) { l[i], l[j] = l[j], l[i] }) }},
	}
}

// P8.2: nobody waits for ever, where each one that has begun goes on: whoever has the lock gives it back within five rounds, and somebody has it next, so that there are at most five rounds for each call.
func TestAllEndInTurn(t *testing.T) {
	ends := map[string]int{}
	for seed := range 60 {
		draw := rand.New(rand.NewSource(int64(seed)))
		for _, order := range orders(draw) {
			r := newRace(t, 1+draw.Intn(8), ends)
			calls := 0
			for who := range 1 + draw.Intn(12) {
				n := 1 + draw.Intn(6)
				calls += n
				r.add(who, drawKinds(draw, n, 50)...)
			}
			if n := r.rounds(5*calls+1, order.turn); n > 5*calls {
				t.Fatalf("seed %d, %s: %d calls aren't done in %d rounds", seed, order.name, calls, n-1)
			}
			r.settle()
		}
	}
	wantMet(t, ends)
}

// P8.2: the same from whatever was begun: some stand still in the middle of calls at first, and others wait for them in vain.
func TestAllEndFromAnywhere(t *testing.T) {
	ends := map[string]int{}
	for seed := range 200 {
		draw := rand.New(rand.NewSource(int64(seed)))
		for _, order := range orders(draw) {
			r := newRace(t, 1+draw.Intn(4), ends)
			calls := 0
			for who := range 2 + draw.Intn(5) {
				r.add(who, drawKinds(draw, 4, 50)...)
				calls += 4
			}
			for range draw.Intn(60) {
				if w := r.workers[draw.Intn(len(r.workers))]; w.open() {
					r.step(w)
				}
			}
			if n := r.rounds(5*calls+1, order.turn); n > 5*calls {
				t.Fatalf("seed %d, %s: %d calls aren't done in %d rounds", seed, order.name, calls, n-1)
			}
			r.settle()
		}
	}
	wantMet(t, ends)
}

// P8.2: all workers that there can be, at a greater spill, in orders that are drawn, and in turn.
func TestManyWorkers(t *testing.T) {
	for seed := range 6 {
		draw := rand.New(rand.NewSource(int64(seed)))
		r := newRace(t, 100, map[string]int{})
		calls := 0
		for who := range 64 {
			r.add(who, drawKinds(draw, 12, 30+20*(seed%3))...)
			calls += 12
		}
		if seed < 3 {
			r.run(noEnd, draw.Intn)
		} else if n := r.rounds(5*calls+1, func([]*worker) {}); n > 5*calls {
			t.Errorf("%d calls aren't done in %d rounds", calls, n-1)
		}
		r.settle()
		if r.ends["put goes"] == 0 || r.ends["take goes"] == 0 || r.ends["in vain"] == 0 {
			t.Errorf("what was met: %v", r.ends)
		}
	}
}
