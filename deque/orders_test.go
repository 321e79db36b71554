package deque_test

import (
	"math/rand"
	"testing"
)

// everyOrder: runs something as often as there are rows of picks, each time with another one.
func everyOrder(run func(pick func(n int) int)) int {
	var path, wide []int
	for runs := 1; ; runs++ {
		at := 0
		run(func(n int) int {
			if at == len(path) {
				path, wide = append(path, 0), append(wide, n)
			}
			at++
			return path[at-1]
		})
		for len(path) > 0 && path[len(path)-1] == wide[len(path)-1]-1 {
			path, wide = path[:len(path)-1], wide[:len(path)-1]
		}
		if len(path) == 0 {
			return runs
		}
		path[len(path)-1]++
	}
}

func repeated(kind string, n int) []string {
	var l []string
	for range n {
		l = append(l, kind)
	}
	return l
}

// P6.2, P6.1: all orders in which the steps of a few calls can be taken.
func TestEveryOrder(t *testing.T) {
	ends, orders := map[string]int{}, 0
	for _, x := range []struct {
		room, filled int // words that are pushed ahead of all others
		owner        []string
		steals       []int // of each other worker
	}{
		{2, 1, []string{"pop"}, []int{1}},
		{2, 0, []string{"push", "pop"}, []int{1}},
		{2, 1, []string{"pop", "push"}, []int{1}},
		{2, 1, []string{"pop", "push", "pop"}, []int{1}},
		{2, 1, []string{"push", "pop", "pop"}, []int{1}},
		{2, 2, []string{"push", "pop", "pop", "push"}, []int{1}},
		{2, 2, []string{"pop", "pop"}, []int{2}},
		{2, 0, []string{"push", "pop", "push"}, []int{2}},
		{3, 2, []string{"pop"}, []int{1, 1}},
		{2, 1, []string{"pop"}, []int{1, 1}},
	} {
		orders += everyOrder(func(pick func(n int) int) {
			r := newRace(t, x.room, ends)
			r.add(0, repeated("push", x.filled)...)
			r.run(func(int) int { return 0 })
			r.workers = nil
			r.add(0, x.owner...)
			for i, n := range x.steals {
				r.add(1+i, repeated("steal", n)...)
			}
			r.run(pick)
		})
	}
	if orders < 50000 {
		t.Errorf("only %d orders", orders)
	}
	wantMet(t, ends)
}

// wantMet: each end that the chapter names was met often enough.
func wantMet(t *testing.T, ends map[string]int) {
	t.Helper()
	for _, end := range []string{"push goes", "push full", "pop goes", "pop empty", "steal goes", "steal empty", "steal lost"} {
		if ends[end] < 100 {
			t.Errorf("only %d times: %s", ends[end], end)
		}
	}
}

// P6.2, P6.1: many calls of the owner and of several others, in orders that are drawn: even ones, and such where one worker goes on for long while others stand still in the middle of a call.
func TestDrawnOrders(t *testing.T) {
	ends := map[string]int{}
	for seed := range 1500 {
		draw := rand.New(rand.NewSource(int64(seed)))
		r := newRace(t, 2+draw.Intn(5), ends)
		pushes := 30 + draw.Intn(50) // of a hundred
		var owner []string
		for range 60 {
			if draw.Intn(100) < pushes {
				owner = append(owner, "push")
			} else {
				owner = append(owner, "pop")
			}
		}
		r.add(0, owner...)
		for who := range 1 + draw.Intn(5) {
			r.add(63-who, repeated("steal", 5+draw.Intn(30))...)
		}
		stay, last := draw.Intn(100), 0
		r.run(func(n int) int {
			if draw.Intn(100) >= stay || last >= n {
				last = draw.Intn(n)
			}
			return last
		})
	}
	wantMet(t, ends)
}

// P6.2: all workers that there can be, at a deque that is full at first.
func TestManyWorkers(t *testing.T) {
	for seed := range 5 {
		draw := rand.New(rand.NewSource(int64(seed)))
		r := newRace(t, 1024, map[string]int{})
		r.add(0, repeated("push", 1025)...)
		r.run(func(int) int { return 0 })
		r.workers = nil
		r.add(0, repeated("pop", 300)...)
		for who := 1; who < 64; who++ {
			r.add(who, repeated("steal", 40)...)
		}
		r.run(draw.Intn)
		if r.ends["push full"] != 1 || r.ends["pop goes"] == 0 || r.ends["steal goes"] == 0 || r.ends["steal lost"] == 0 {
			t.Errorf("what was met: %v", r.ends)
		}
	}
}
