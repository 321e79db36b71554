package offer_test

import (
	"math"
	"slices"
	"testing"

	"besom/api"
	"besom/cell"
	"besom/offer"
)

// most: how many workers there are at most, by the document.
const most = 64

// What a touch is, by chapter 3.
const (
	load = 1
	swap = 3
	add  = 4
)

// mostTouches: how many touches a cell's list has at most, by chapter 3.
const mostTouches = 100000

// farWorkers: such as there never are.
var farWorkers = []int{-1, -2, -63, -64, -65, 64, 65, 127, 128, -1 << 32, 1 << 32, 1<<32 + 1, math.MinInt, math.MinInt + 1, math.MaxInt - 1, math.MaxInt}

// farNumbers: as many as never are idle.
var farNumbers = []int{-1, -2, -64, 65, 66, 128, -1 << 32, 1 << 32, 1<<32 + 1, math.MinInt, math.MinInt + 1, math.MaxInt - 1, math.MaxInt}

// badWorkers: those that an offer of so many hasn't.
func badWorkers(workers int) []int {
	l := slices.Clone(farWorkers)
	for who := workers; who <= most; who++ {
		l = append(l, who)
	}
	return l
}

// touch: of the one cell.
func touch(who, what, was, is int) cell.Touch {
	return cell.Touch{Who: who, Place: 0, What: what, Was: was, Is: is}
}

func newOffer(t *testing.T, workers int) *offer.Offer {
	t.Helper()
	o, e := offer.New(workers)
	if o == nil || e != api.OK {
		t.Fatalf("New(%d): %v, %d", workers, o, e)
	}
	return o
}

// offered: of so many workers, of whom these offered, in order.
func offered(t *testing.T, workers int, idle ...int) *offer.Offer {
	t.Helper()
	o := newOffer(t, workers)
	for i, who := range idle {
		wantOffer(t, o, who, i+1 == workers, api.OK)
	}
	return o
}

// adds: the touches of these workers, when they offer in order.
func adds(workers ...int) []cell.Touch {
	var l []cell.Touch
	for i, who := range workers {
		l = append(l, touch(who, add, i, i+1))
	}
	return l
}

// upTo: the numbers from 0 on, so many.
func upTo(many int) []int {
	var l []int
	for i := range many {
		l = append(l, i)
	}
	return l
}

func wantOffer(t *testing.T, o *offer.Offer, who int, over bool, want api.Errno) {
	t.Helper()
	if got, e := o.Offer(who); got != over || e != want {
		t.Fatalf("Offer(%d): %t, %d, want %t, %d", who, got, e, over, want)
	}
}

func wantLook(t *testing.T, o *offer.Offer, who, many int, want api.Errno) {
	t.Helper()
	if n, e := o.Look(who); n != many || e != want {
		t.Fatalf("Look(%d): %d, %d, want %d, %d", who, n, e, many, want)
	}
}

func wantBack(t *testing.T, o *offer.Offer, who, seen int, want api.Errno) {
	t.Helper()
	if e := o.Back(who, seen); e != want {
		t.Fatalf("Back(%d, %d): %d, want %d", who, seen, e, want)
	}
}

// wantIdle: whether it is over, and just these workers are idle, of none that there isn't.
func wantIdle(t *testing.T, what string, o *offer.Offer, over bool, idle ...int) {
	t.Helper()
	if o.Over() != over {
		t.Fatalf("%s: Over: %t", what, !over)
	}
	for who := -3; who < most+3; who++ {
		if want := slices.Contains(idle, who); o.Idle(who) != want {
			t.Fatalf("%s: Idle(%d): %t", what, who, !want)
		}
	}
	for _, who := range farWorkers {
		if o.Idle(who) {
			t.Fatalf("%s: Idle(%d): true", what, who)
		}
	}
}

func wantLog(t *testing.T, what string, o *offer.Offer, want ...cell.Touch) {
	t.Helper()
	got := o.Log()
	if len(got) != len(want) {
		t.Fatalf("%s: Log: %v, want %v", what, got, want)
	}
	for i, x := range got {
		if x != want[i] {
			t.Fatalf("%s: Log: touch %d is %v, want %v", what, i, x, want[i])
		}
	}
}

// P10.1: New of as many workers as may be, up to the edges: nobody is idle, and nothing was touched.
func TestNew(t *testing.T) {
	for workers := 1; workers <= most; workers++ {
		o := newOffer(t, workers)
		wantIdle(t, "New", o, false)
		wantLog(t, "New", o)
		wantLook(t, o, 0, 0, api.OK)
		wantLook(t, o, workers-1, 0, api.OK)
		wantLook(t, o, workers, 0, api.ErrRange)
	}
}

// P10.1: New of too few and of too many.
func TestNewRange(t *testing.T) {
	for _, workers := range []int{0, -1, -2, -64, 65, 66, 128, 1024, 65536, 1 << 32, 1<<32 + 1, -1<<32 + 1, math.MinInt, math.MinInt + 1, math.MaxInt} {
		if o, e := offer.New(workers); o != nil || e != api.ErrRange {
			t.Errorf("New(%d): %v, %d, want nil, ErrRange", workers, o, e)
		}
	}
}

// P10.1: the document's example.
func TestOneWorker(t *testing.T) {
	o := newOffer(t, 1)
	wantLook(t, o, 0, 0, api.OK)
	wantOffer(t, o, 0, true, api.OK)
	wantIdle(t, "its first Offer", o, true, 0)
	wantLog(t, "its first Offer", o, touch(0, load, 0, 0), touch(0, add, 0, 1))
	wantLook(t, o, 0, 1, api.OK)
	wantOffer(t, o, 0, false, api.ErrOrder)
	wantBack(t, o, 0, 1, api.ErrEnd)
	wantBack(t, o, 0, 0, api.ErrLost)
	wantIdle(t, "the end", o, true, 0)
	wantLog(t, "the end", o, touch(0, load, 0, 0), touch(0, add, 0, 1), touch(0, load, 1, 1), touch(0, swap, 1, 1))
}

// P10.1: two workers, step by step: what each call answers, who is idle then, and what was touched.
func TestTwoWorkers(t *testing.T) {
	o := newOffer(t, 2)
	var log []cell.Touch
	after := func(what string, over bool, idle []int, touches ...cell.Touch) {
		t.Helper()
		log = append(log, touches...)
		wantIdle(t, what, o, over, idle...)
		wantLog(t, what, o, log...)
	}
	wantBack(t, o, 1, 0, api.ErrOrder)
	after("nobody is back", false, nil)
	wantOffer(t, o, 1, false, api.OK)
	after("1 offers", false, []int{1}, touch(1, add, 0, 1))
	wantOffer(t, o, 1, false, api.ErrOrder)
	after("1 offers once more", false, []int{1})
	wantLook(t, o, 0, 1, api.OK)
	after("0 looks, which isn't idle", false, []int{1}, touch(0, load, 1, 1))
	wantLook(t, o, 1, 1, api.OK)
	after("1 looks, which is", false, []int{1}, touch(1, load, 1, 1))
	wantBack(t, o, 1, 0, api.ErrLost)
	after("1 has seen too few", false, []int{1}, touch(1, swap, 1, 1))
	wantBack(t, o, 1, 2, api.ErrEnd)
	after("1 has seen all", false, []int{1})
	wantBack(t, o, 1, 3, api.ErrLost)
	after("1 has seen too many", false, []int{1}, touch(1, swap, 1, 1))
	wantBack(t, o, 0, 1, api.ErrOrder)
	after("0 isn't idle", false, []int{1})
	wantBack(t, o, 1, 1, api.OK)
	after("1 is back", false, nil, touch(1, swap, 1, 0))
	wantBack(t, o, 1, 0, api.ErrOrder)
	after("1 isn't idle any more", false, nil)
	wantOffer(t, o, 0, false, api.OK)
	after("0 offers", false, []int{0}, touch(0, add, 0, 1))
	wantOffer(t, o, 1, true, api.OK)
	after("1 offers too", true, []int{0, 1}, touch(1, add, 1, 2))
	wantLook(t, o, 0, 2, api.OK)
	after("0 looks", true, []int{0, 1}, touch(0, load, 2, 2))
	wantBack(t, o, 0, 1, api.ErrLost)
	after("0 was too late", true, []int{0, 1}, touch(0, swap, 2, 2))
	wantBack(t, o, 0, 2, api.ErrEnd)
	after("0 sees that it is over", true, []int{0, 1})
	wantOffer(t, o, 1, false, api.ErrOrder)
	after("1 is idle", true, []int{0, 1})
}

// P10.1: of the workers the last one to offer, and none ahead of it, hears that it is over, whoever that is.
func TestLastOffer(t *testing.T) {
	for workers := 1; workers <= most; workers++ {
		for _, order := range []string{"forward", "backward", "from the middle"} {
			turn := upTo(workers)
			switch order {
			case "backward":
				slices.Reverse(turn)
			case "from the middle":
				turn = append(turn[workers/2:], turn[:workers/2]...)
			}
			o := newOffer(t, workers)
			for i, who := range turn {
				wantOffer(t, o, who, i == workers-1, api.OK)
				wantIdle(t, order, o, i == workers-1, turn[:i+1]...)
				wantLook(t, o, turn[0], i+1, api.OK)
			}
		}
	}
}

// P10.1: the Offer by which it is over, behind one that came back from it: that one's next Offer ends it, and the one ahead doesn't.
func TestLastOfferBehindBack(t *testing.T) {
	for workers := 2; workers <= most; workers++ {
		o := offered(t, workers, upTo(workers-1)...)
		wantBack(t, o, 0, workers-1, api.OK)
		wantIdle(t, "0 is back", o, false, upTo(workers - 1)[1:]...)
		wantOffer(t, o, workers-1, false, api.OK)
		wantIdle(t, "all but 0", o, false, upTo(workers)[1:]...)
		wantOffer(t, o, 0, true, api.OK)
		wantIdle(t, "all", o, true, upTo(workers)...)
	}
}

// P10.1: an Offer of a worker that is idle is told, and neither changes nor touches anything, however often.
func TestOfferOfIdle(t *testing.T) {
	for _, workers := range []int{1, 2, 3, 63, 64} {
		for many := 1; many <= workers; many++ {
			idle := upTo(many)
			o := offered(t, workers, idle...)
			for range 2 {
				for _, who := range idle {
					wantOffer(t, o, who, false, api.ErrOrder)
				}
			}
			wantIdle(t, "offers of idle ones", o, many == workers, idle...)
			wantLog(t, "offers of idle ones", o, adds(idle...)...)
		}
	}
}

// P10.1: Back of a worker that isn't idle: ErrOrder, ahead of ErrEnd and ErrLost, with whatever was seen; it touches nothing.
func TestBackOfBusy(t *testing.T) {
	for _, workers := range []int{1, 2, 3, 63, 64} {
		for many := range workers {
			idle := upTo(many)
			o := offered(t, workers, idle...)
			for who := many; who < workers; who++ {
				wantBack(t, o, who, workers, api.ErrOrder)
				wantBack(t, o, who, many, api.ErrOrder)
				wantBack(t, o, who, many+1, api.ErrOrder)
			}
			for _, seen := range append(upTo(most+1), farNumbers...) {
				wantBack(t, o, workers-1, seen, api.ErrOrder)
			}
			wantIdle(t, "back of busy ones", o, false, idle...)
			wantLog(t, "back of busy ones", o, adds(idle...)...)
		}
	}
}

// P10.1: Back with seen the number of workers: ErrEnd, and no touch, whether or not so many are idle.
func TestBackAtEnd(t *testing.T) {
	for workers := 1; workers <= most; workers++ {
		for _, many := range []int{1, workers/2 + 1, workers - 1, workers} {
			if many < 1 || many > workers {
				continue
			}
			idle := upTo(many)
			o := offered(t, workers, idle...)
			for _, who := range idle {
				wantBack(t, o, who, workers, api.ErrEnd)
			}
			wantIdle(t, "seen all", o, many == workers, idle...)
			wantLog(t, "seen all", o, adds(idle...)...)
		}
	}
}

// P10.1: Back where not seen are idle: ErrLost, each with one touch that changes nothing.
func TestBackLost(t *testing.T) {
	for _, workers := range []int{1, 2, 3, 4, 63, 64} {
		for many := 1; many <= workers; many++ {
			idle := upTo(many)
			o := offered(t, workers, idle...)
			log := adds(idle...)
			for i, seen := range append(upTo(most+1), farNumbers...) {
				if seen == many || seen == workers {
					continue
				}
				who := idle[i%many]
				wantBack(t, o, who, seen, api.ErrLost)
				log = append(log, touch(who, swap, many, many))
			}
			wantIdle(t, "lost", o, many == workers, idle...)
			wantLog(t, "lost", o, log...)
			wantLook(t, o, 0, many, api.OK)
		}
	}
}

// P10.1: Back where seen are idle: that worker alone is back, whoever offered first or last; one touch.
func TestBack(t *testing.T) {
	for _, workers := range []int{2, 3, 4, 63, 64} {
		for many := 1; many < workers; many++ {
			for _, who := range []int{0, many / 2, many - 1} {
				idle := upTo(many)
				o := offered(t, workers, idle...)
				wantBack(t, o, who, many, api.OK)
				left := slices.DeleteFunc(idle, func(x int) bool { return x == who })
				wantIdle(t, "back", o, false, left...)
				wantLog(t, "back", o, append(adds(upTo(many)...), touch(who, swap, many, many-1))...)
				wantBack(t, o, who, many-1, api.ErrOrder)
				wantLook(t, o, who, many-1, api.OK)
				wantOffer(t, o, who, false, api.OK)
				wantIdle(t, "offered again", o, false, upTo(many)...)
			}
		}
	}
}

// P10.1: Look tells how many are idle to each worker, idle or not, and changes nothing.
func TestLook(t *testing.T) {
	for _, workers := range []int{1, 2, 3, 63, 64} {
		for many := range workers + 1 {
			idle := upTo(many)
			o := offered(t, workers, idle...)
			log := adds(idle...)
			for who := range workers {
				wantLook(t, o, who, many, api.OK)
				log = append(log, touch(who, load, many, many))
			}
			wantIdle(t, "looks", o, many == workers, idle...)
			wantLog(t, "looks", o, log...)
		}
	}
}

// P10.1: workers that there aren't: ErrRange ahead of all other errors, whatever else is; nothing is changed or touched.
func TestBadWorkers(t *testing.T) {
	for _, workers := range []int{1, 2, 3, 32, 63, 64} {
		for _, many := range []int{0, 1, workers / 2, workers - 1, workers} {
			idle := upTo(many)
			o := offered(t, workers, idle...)
			for _, who := range badWorkers(workers) {
				for range 2 {
					wantOffer(t, o, who, false, api.ErrRange)
					wantLook(t, o, who, 0, api.ErrRange)
				}
				for _, seen := range []int{many, workers, 0, workers + 1, who, -1, math.MinInt, math.MaxInt} {
					wantBack(t, o, who, seen, api.ErrRange)
				}
			}
			wantIdle(t, "nobody's calls", o, many == workers, idle...)
			wantLog(t, "nobody's calls", o, adds(idle...)...)
		}
	}
}

// P10.1: Over, Idle and Log touch nothing.
func TestAskingTouchesNothing(t *testing.T) {
	for _, many := range []int{0, 1, 2, 3} {
		idle := upTo(many)
		o := offered(t, 3, idle...)
		for range 3 {
			wantIdle(t, "asked", o, many == 3, idle...)
			wantLog(t, "asked", o, adds(idle...)...)
		}
	}
}

// R6: a list of touches is new memory, spare room too, and stays as it is; what is written into it changes nothing.
func TestLogIsNew(t *testing.T) {
	o := offered(t, 3, 2, 0)
	wantLook(t, o, 1, 2, api.OK)
	want := append(adds(2, 0), touch(1, load, 2, 2))
	one, other := o.Log(), o.Log()
	one = one[:cap(one)]
	wrong := cell.Touch{Who: 9, Place: 9, What: 9, Was: 9, Is: 9}
	for i := range one {
		one[i] = wrong
	}
	wantLog(t, "an answer written over", o, want...)
	wantIdle(t, "an answer written over", o, false, 0, 2)
	wantBack(t, o, 2, 2, api.OK)
	wantOffer(t, o, 1, false, api.OK)
	wantLog(t, "an answer written over", o, append(slices.Clone(want), touch(2, swap, 2, 1), touch(1, add, 1, 2))...)
	if !slices.Equal(other, want) {
		t.Errorf("an answer changed with the offer: %v", other)
	}
	for _, x := range one {
		if x != wrong {
			t.Fatalf("a touch was written into an answer: %v", x)
		}
	}
}

// R8: offers know nothing of each other.
func TestApart(t *testing.T) {
	a, b := newOffer(t, 2), newOffer(t, 2)
	wantOffer(t, a, 0, false, api.OK)
	wantOffer(t, b, 1, false, api.OK)
	wantOffer(t, a, 1, true, api.OK)
	wantBack(t, b, 1, 1, api.OK)
	wantIdle(t, "one", a, true, 0, 1)
	wantIdle(t, "other", b, false)
	wantLog(t, "one", a, adds(0, 1)...)
	wantLog(t, "other", b, touch(1, add, 0, 1), touch(1, swap, 1, 0))
}

// P10.1: of very many touches the last ones are told, as chapter 3 keeps them; who is idle is known all the same.
func TestManyTouches(t *testing.T) {
	o := offered(t, 64, 63)
	looks := mostTouches + 50
	for i := range looks {
		if n, e := o.Look(i % 64); n != 1 || e != api.OK {
			t.Fatalf("look %d: %d, %d", i, n, e)
		}
	}
	wantBack(t, o, 63, 1, api.OK)
	l := o.Log()
	if len(l) != mostTouches {
		t.Fatalf("Log: %d touches, want %d", len(l), mostTouches)
	}
	for i, x := range l[:mostTouches-1] {
		if at := i + looks - (mostTouches - 1); x != touch(at%64, load, 1, 1) {
			t.Fatalf("Log: look %d is %v", at, x)
		}
	}
	if x := l[mostTouches-1]; x != touch(63, swap, 1, 0) {
		t.Fatalf("Log: the last touch is %v", x)
	}
	wantIdle(t, "many touches", o, false)
}
