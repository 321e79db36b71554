package offer_test

import (
	"math/rand"
	"testing"

	"besom/api"
	"besom/cell"
	"besom/offer"
)

// call: one of an offer's, right or wrong.
type call struct {
	kind      string // offer, look, back
	who, seen int
}

// model: the chapter's words, told plainly, apart from the program: a row of who is idle.
type model struct {
	idle  []bool
	over  bool // it stays so
	touch []cell.Touch
}

func (m *model) many() int {
	n := 0
	for _, idle := range m.idle {
		if idle {
			n++
		}
	}
	return n
}

func (m *model) workers() []int {
	var l []int
	for who, idle := range m.idle {
		if idle {
			l = append(l, who)
		}
	}
	return l
}

func (m *model) offer(who int) (bool, api.Errno) {
	if who < 0 || who >= len(m.idle) {
		return false, api.ErrRange
	}
	if m.idle[who] {
		return false, api.ErrOrder
	}
	was := m.many()
	m.idle[who] = true
	m.touch = append(m.touch, touch(who, add, was, was+1))
	m.over = m.many() == len(m.idle)
	return m.over, api.OK
}

func (m *model) look(who int) (int, api.Errno) {
	if who < 0 || who >= len(m.idle) {
		return 0, api.ErrRange
	}
	n := m.many()
	m.touch = append(m.touch, touch(who, load, n, n))
	return n, api.OK
}

func (m *model) back(who, seen int) api.Errno {
	if who < 0 || who >= len(m.idle) {
		return api.ErrRange
	}
	if !m.idle[who] {
		return api.ErrOrder
	}
	if seen == len(m.idle) {
		return api.ErrEnd
	}
	n := m.many()
	if n != seen {
		m.touch = append(m.touch, touch(who, swap, n, n))
		return api.ErrLost
	}
	m.touch = append(m.touch, touch(who, swap, n, n-1))
	m.idle[who] = false
	return api.OK
}

// both: an offer, and its model.
type both struct {
	t *testing.T
	o *offer.Offer
	m *model
}

func newBoth(t *testing.T, workers int) *both {
	t.Helper()
	return &both{t, newOffer(t, workers), &model{idle: make([]bool, workers)}}
}

// offered: these offer, in order.
func (b *both) offered(workers ...int) *both {
	b.t.Helper()
	for _, who := range workers {
		b.call(call{"offer", who, 0})
	}
	return b
}

// call: of both, and held against each other.
func (b *both) call(c call) api.Errno {
	b.t.Helper()
	var want api.Errno
	switch c.kind {
	case "offer":
		over, e := b.m.offer(c.who)
		wantOffer(b.t, b.o, c.who, over, e)
		want = e
	case "look":
		n, e := b.m.look(c.who)
		wantLook(b.t, b.o, c.who, n, e)
		want = e
	case "back":
		want = b.m.back(c.who, c.seen)
		wantBack(b.t, b.o, c.who, c.seen, want)
	default:
		b.t.Fatalf("no call: %s", c.kind)
	}
	return want
}

// settle: who is idle, and what was touched.
func (b *both) settle(what string) {
	b.t.Helper()
	wantIdle(b.t, what, b.o, b.m.over, b.m.workers()...)
	wantLog(b.t, what, b.o, b.m.touch...)
}

// calls: all, of these workers, with these numbers seen.
func calls(workers, seen []int) []call {
	var l []call
	for _, who := range workers {
		l = append(l, call{"offer", who, 0}, call{"look", who, 0})
		for _, n := range seen {
			l = append(l, call{"back", who, n})
		}
	}
	return l
}

// around: the numbers from -1 on, up to one above.
func around(many int) []int {
	return append(upTo(many+2), -1)
}

// drawn: a call, right or wrong; such that go are drawn often.
func drawn(draw *rand.Rand, m *model) call {
	workers := len(m.idle)
	c := call{[]string{"offer", "look", "back"}[draw.Intn(3)], draw.Intn(workers+4) - 2, draw.Intn(workers+4) - 2}
	if draw.Intn(3) > 0 {
		c.seen = m.many()
	}
	if idle := m.workers(); c.kind == "back" && len(idle) > 0 && draw.Intn(3) > 0 {
		c.who = idle[draw.Intn(len(idle))]
	}
	return c
}

// P10.1: from each row of who is idle, of a few workers, each call.
func TestFromEveryRow(t *testing.T) {
	for workers := 1; workers <= 5; workers++ {
		for row := range 1 << workers {
			var idle []int
			for who := range workers {
				if row>>who&1 == 1 {
					idle = append(idle, who)
				}
			}
			for _, c := range calls(around(workers), around(workers)) {
				b := newBoth(t, workers).offered(idle...)
				b.settle("a row")
				b.call(c)
				b.settle("a row, and a call")
			}
		}
	}
}

// P10.1: each row of a few calls, of two workers, of whoever, with whatever was seen.
func TestEveryCalls(t *testing.T) {
	all := calls([]int{-1, 0, 1, 2}, around(2))
	for one := range all {
		for two := range all {
			for three := range all {
				b := newBoth(t, 2)
				for _, i := range []int{one, two, three} {
					b.call(all[i])
				}
				b.settle("three calls")
			}
		}
	}
}

// machine: a worker that offers, looks, and comes back on what it saw, again and again.
type machine struct{ who, at, seen int }

func (x *machine) next(m *model) call {
	x.at++
	switch x.at % 3 {
	case 1:
		return call{"offer", x.who, 0}
	case 2:
		x.seen = m.many() // what its look, which is now, answers
		return call{"look", x.who, 0}
	}
	return call{"back", x.who, x.seen}
}

// inAllOrders: of workers that have so many steps left each; the order so far is handed down.
func inAllOrders(left, order []int, run func(order []int)) {
	done := true
	for who, n := range left {
		if n > 0 {
			done = false
			left[who]--
			inAllOrders(left, append(order, who), run)
			left[who]++
		}
	}
	if done {
		run(order)
	}
}

// P10.1, P10.2: all orders in which a few workers offer, look, and come back on what they saw, while the others do the same.
func TestEveryOrder(t *testing.T) {
	seen, orders := map[api.Errno]int{}, 0
	for _, x := range []struct {
		workers int
		steps   []int
	}{{1, []int{6}}, {2, []int{6, 6}}, {2, []int{9, 3}}, {3, []int{3, 3, 3}}, {3, []int{6, 6}}, {4, []int{3, 3, 3}}} {
		inAllOrders(x.steps, nil, func(order []int) {
			orders++
			b := newBoth(t, x.workers)
			machines := make([]machine, len(x.steps))
			for _, who := range order {
				machines[who].who = who
				seen[b.call(machines[who].next(b.m))]++
				if b.o.Over() != b.m.over {
					t.Fatalf("%v: Over: %t, want %t", order, b.o.Over(), b.m.over)
				}
			}
			b.settle("machines")
		})
	}
	if orders < 5000 {
		t.Errorf("only %d orders", orders)
	}
	for _, e := range []api.Errno{api.OK, api.ErrOrder, api.ErrEnd, api.ErrLost} {
		if seen[e] < 100 {
			t.Errorf("only %d calls answered %d", seen[e], e)
		}
	}
}

// P10.1: many calls of all kinds, right and wrong, of few and of many workers, against a plain row of who is idle.
func TestAgainstModel(t *testing.T) {
	seen := map[api.Errno]int{}
	for seed := range 400 {
		draw := rand.New(rand.NewSource(int64(seed)))
		b := newBoth(t, []int{1, 2, 3, 4, 5, 8, 16, 63, 64}[seed%9])
		for i := range 250 {
			seen[b.call(drawn(draw, b.m))]++
			if i%10 == 0 {
				b.settle("drawn")
			}
		}
		b.settle("drawn")
	}
	for _, e := range []api.Errno{api.OK, api.ErrRange, api.ErrLost, api.ErrOrder, api.ErrEnd} {
		if seen[e] < 1000 {
			t.Errorf("only %d calls answered %d", seen[e], e)
		}
	}
}
