package offer_test

import (
	"math/rand"
	"slices"
	"testing"

	"besom/api"
	"besom/offer"
)

// wantOver: it is over, all are idle, and a look tells so to whoever it is.
func wantOver(t *testing.T, what string, o *offer.Offer, workers, who int) {
	t.Helper()
	wantIdle(t, what, o, true, upTo(workers)...)
	wantLook(t, o, who, workers, api.OK)
}

// behindEnd: a call behind the end, which nobody may come back by.
func behindEnd(t *testing.T, o *offer.Offer, c call) {
	t.Helper()
	switch c.kind {
	case "offer":
		if over, e := o.Offer(c.who); over || e == api.OK {
			t.Fatalf("Offer(%d) behind the end: %t, %d", c.who, over, e)
		}
	case "look":
		o.Look(c.who)
	case "back":
		if e := o.Back(c.who, c.seen); e == api.OK {
			t.Fatalf("Back(%d, %d) behind the end: OK", c.who, c.seen)
		}
	}
}

// P10.2: behind the end each call, of each worker, with all that can be seen, as many times as you like: all stay idle.
func TestNobodyIsBack(t *testing.T) {
	for workers := 1; workers <= most; workers++ {
		o := offered(t, workers, upTo(workers)...)
		for round := range 2 {
			for _, c := range calls(append(upTo(workers), badWorkers(workers)...), append(upTo(most+2), farNumbers...)) {
				behindEnd(t, o, c)
				if !o.Over() || c.who >= 0 && c.who < workers && !o.Idle(c.who) {
					t.Fatalf("%d workers, round %d: %s of %d, %d: it isn't over any more", workers, round, c.kind, c.who, c.seen)
				}
			}
			wantOver(t, "all calls", o, workers, round%workers)
		}
	}
}

// P10.2: each row of a few calls behind the end, of one to three workers.
func TestEveryCallsBehindEnd(t *testing.T) {
	for workers := 1; workers <= 3; workers++ {
		all := calls(around(workers), around(workers))
		for _, one := range all {
			for _, two := range all {
				o := offered(t, workers, upTo(workers)...)
				for _, c := range []call{one, two, one} {
					behindEnd(t, o, c)
					if !o.Over() {
						t.Fatalf("%d workers: behind %v and %v it isn't over", workers, one, two)
					}
				}
				wantOver(t, "three calls", o, workers, 0)
			}
		}
	}
}

// P10.2: whichever way it came to the end, with comings back on the way, and whatever is drawn behind it.
func TestDrawnBehindEnd(t *testing.T) {
	backs := 0
	for seed := range 300 {
		draw := rand.New(rand.NewSource(int64(seed)))
		workers := []int{1, 2, 3, 5, 17, 64}[seed%6]
		b := newBoth(t, workers)
		for i := 0; !b.m.over; i++ {
			c := drawn(draw, b.m)
			if i > 200 { // so that many workers come to an end too
				c = call{"offer", slices.Index(b.m.idle, false), 0}
			}
			if b.call(c) == api.OK && c.kind == "back" {
				backs++
			}
			if b.o.Over() != b.m.over {
				t.Fatalf("seed %d: Over: %t, want %t", seed, b.o.Over(), b.m.over)
			}
		}
		for range 300 {
			c := drawn(draw, b.m)
			if draw.Intn(2) == 0 {
				c.seen = workers - draw.Intn(2)
			}
			b.call(c)
			if !b.o.Over() || !b.o.Idle(draw.Intn(workers)) {
				t.Fatalf("seed %d: behind %v it isn't over", seed, c)
			}
		}
		b.settle("behind the end")
		wantOver(t, "behind the end", b.o, workers, draw.Intn(workers))
	}
	if backs < 1000 {
		t.Errorf("only %d came back ahead of the end", backs)
	}
}

// P10.2: workers that saw fewer idle ahead of the end, and would come back only now, stay idle.
func TestTooLate(t *testing.T) {
	for workers := 2; workers <= most; workers++ {
		o := newOffer(t, workers)
		seen := make([]int, workers)
		for who := range workers {
			wantOffer(t, o, who, who == workers-1, api.OK)
			n, e := o.Look(who)
			if n != who+1 || e != api.OK {
				t.Fatalf("Look(%d): %d, %d", who, n, e)
			}
			seen[who] = n
		}
		for who, n := range slices.Backward(seen) {
			want := api.ErrLost
			if who == workers-1 {
				want = api.ErrEnd
			}
			wantBack(t, o, who, n, want)
			wantOffer(t, o, who, false, api.ErrOrder)
		}
		wantOver(t, "too late", o, workers, 0)
	}
}
