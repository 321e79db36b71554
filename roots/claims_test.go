package roots_test

import (
	"math"
	"math/rand"
	"slices"
	"testing"

	"besom/api"
	"besom/cell"
	"besom/roots"
)

// add: what a touch that adds is, by chapter 3.
const add = 4

// mostTouches: how many touches a cell's list has at most, by chapter 3.
const mostTouches = 100000

var badWorkers = []int{-1, 64, 65, -64, 1 << 32, 1<<32 + 1, math.MinInt, math.MaxInt}

func wantClaim(t *testing.T, r *roots.Roots, who, from, to int, want api.Errno) {
	t.Helper()
	if a, b, e := r.Claim(who); a != from || b != to || e != want {
		t.Fatalf("Claim(%d): %d, %d, %d, want %d, %d, %d", who, a, b, e, from, to, want)
	}
}

// wantLog: one touch of each of these workers, in order: 1 is added to the one cell, from 0 on.
func wantLog(t *testing.T, what string, r *roots.Roots, workers ...int) {
	t.Helper()
	got := r.Log()
	if len(got) != len(workers) {
		t.Fatalf("%s: Log: %d touches, want %d", what, len(got), len(workers))
	}
	for i, who := range workers {
		if want := (cell.Touch{Who: who, Place: 0, What: add, Was: i, Is: i + 1}); got[i] != want {
			t.Fatalf("%s: Log: touch %d is %v, want %v", what, i, got[i], want)
		}
	}
}

// wantParts: from the first root on all are claimed, in parts of such a size, by workers that pick tells; none is left then, however often that is asked.
func wantParts(t *testing.T, r *roots.Roots, size int, pick func() int) {
	t.Helper()
	claimed := make([]int, r.Len())
	var workers []int
	for next := 0; next < r.Len(); {
		who := pick()
		workers = append(workers, who)
		from, to, e := r.Claim(who)
		if e != api.OK || from != next || to != min(next+size, r.Len()) {
			t.Fatalf("%d roots in parts of %d: Claim behind root %d: %d, %d, %d", r.Len(), size, next, from, to, e)
		}
		for at := from; at < to; at++ {
			claimed[at]++
		}
		next = to
	}
	for range 3 {
		who := pick()
		workers = append(workers, who)
		wantClaim(t, r, who, 0, 0, api.ErrEmpty)
	}
	for at, n := range claimed {
		if n != 1 {
			t.Fatalf("%d roots in parts of %d: root %d is in %d parts", r.Len(), size, at, n)
		}
	}
	wantLog(t, "all parts", r, workers...)
}

// P9.1: the document's example.
func TestThreeInTwos(t *testing.T) {
	r := filled(t, 2, 3)
	r.Open()
	wantClaim(t, r, 0, 0, 2, api.OK)
	wantClaim(t, r, 0, 2, 3, api.OK)
	wantClaim(t, r, 0, 0, 0, api.ErrEmpty)
}

// P9.1: sizes of parts are as near as they are told; with more roots than a part has, as many, fewer, and none.
func TestPartSizes(t *testing.T) {
	for _, x := range []struct{ told, size int }{
		{math.MinInt, 1}, {-65, 1}, {-64, 1}, {-1, 1}, {0, 1}, {1, 1}, {2, 2}, {3, 3}, {32, 32}, {62, 62},
		{63, 63}, {64, 64}, {65, 64}, {66, 64}, {128, 64}, {1 << 32, 64}, {1<<32 + 1, 64}, {math.MaxInt, 64},
	} {
		for _, many := range []int{0, 1, 2, 62, 63, 64, 65, 66, 127, 128, 129, 1023, 1024} {
			r := filled(t, x.told, many)
			wantParts(t, r, x.size, func() int { return 0 })
		}
	}
}

// P9.1: the last part has as many roots as are left.
func TestLastPart(t *testing.T) {
	for left := 1; left <= 5; left++ {
		r := filled(t, 5, 10+left)
		r.Open()
		wantClaim(t, r, 1, 0, 5, api.OK)
		wantClaim(t, r, 2, 5, 10, api.OK)
		wantClaim(t, r, 3, 10, 10+left, api.OK)
		wantClaim(t, r, 4, 0, 0, api.ErrEmpty)
		wantLog(t, "the last part", r, 1, 2, 3, 4)
	}
}

// P9.1: without roots nothing is to be claimed; each claim touches the cell all the same.
func TestNoRoots(t *testing.T) {
	r := filled(t, 3, 0)
	var workers []int
	for who := range 64 {
		wantClaim(t, r, who, 0, 0, api.ErrEmpty)
		workers = append(workers, who)
		wantLog(t, "without roots", r, workers...)
	}
	r.Open()
	wantClaim(t, r, 5, 0, 0, api.ErrEmpty)
	wantLog(t, "without roots, opened", r, 5)
	wantPush(t, r, 8, api.OK)
	r.Open()
	wantClaim(t, r, 6, 0, 1, api.OK)
}

// P9.1: claims behind New, without Open: the next part is the first one, as nobody has claimed any.
func TestClaimBehindNew(t *testing.T) {
	r := roots.New(2)
	wantLog(t, "New", r)
	for i := range 3 {
		wantPush(t, r, i, api.OK)
	}
	wantLog(t, "pushed", r)
	wantClaim(t, r, 63, 0, 2, api.OK)
	wantLog(t, "claimed", r, 63)
	wantClaim(t, r, 0, 2, 3, api.OK)
	wantLog(t, "claimed", r, 63, 0)
	wantClaim(t, r, 63, 0, 0, api.ErrEmpty)
	wantLog(t, "none left", r, 63, 0, 63)
}

// P9.1: Open, wherever claims are: the next part is the first one, nothing is logged, and the roots stay.
func TestOpenAgain(t *testing.T) {
	for ahead := range 8 {
		r := filled(t, 2, 7) // of four parts
		for i := range ahead {
			r.Claim(i)
		}
		for range 2 {
			r.Open()
			wantLog(t, "opened", r)
		}
		wantRow(t, "opened", r, row(7)...)
		wantClaim(t, r, 9, 0, 2, api.OK)
		wantLog(t, "opened, and claimed", r, 9)
		who := 20
		r.Open()
		wantParts(t, r, 2, func() int { who++; return who })
	}
}

// P9.1: workers that may not be claim nothing and touch nothing, at the beginning, in the midst, and when none is left.
func TestBadWorkers(t *testing.T) {
	r := filled(t, 2, 3)
	r.Open()
	var workers []int
	for i := range 5 {
		for _, who := range badWorkers {
			wantClaim(t, r, who, 0, 0, api.ErrRange)
		}
		wantLog(t, "nobody's claims", r, workers...)
		who := []int{0, 63}[i%2]
		workers = append(workers, who)
		switch i {
		case 0:
			wantClaim(t, r, who, 0, 2, api.OK)
		case 1:
			wantClaim(t, r, who, 2, 3, api.OK)
		default:
			wantClaim(t, r, who, 0, 0, api.ErrEmpty)
		}
	}
	wantLog(t, "nobody's claims", r, workers...)
	none := filled(t, 2, 0)
	for _, who := range badWorkers {
		wantClaim(t, none, who, 0, 0, api.ErrRange) // ahead of ErrEmpty
	}
	wantLog(t, "nobody's claims without roots", none)
}

// P9.1: nothing but claims touches the cell, and claims leave the roots as they are.
func TestOthersTouchNothing(t *testing.T) {
	r := filled(t, 2, 6)
	r.Open()
	wantClaim(t, r, 3, 0, 2, api.OK)
	wantRow(t, "claimed", r, row(6)...)
	wantPush(t, r, 1, api.OK)
	wantPush(t, r, -1, api.ErrRange)
	wantPop(t, r, 1, api.OK)
	wantSet(t, r, 2, 7, api.OK)
	wantSet(t, r, 9, 7, api.ErrNone)
	r.Log()
	wantLog(t, "others", r, 3)
	wantClaim(t, r, 4, 2, 4, api.OK)
	wantRow(t, "others", r, 10, 11, 7, 13, 14, 15)
}

// R6: a list of touches is new memory, spare room too, and stays as it is.
func TestLogIsNew(t *testing.T) {
	r := filled(t, 1, 4)
	r.Claim(1)
	r.Claim(2)
	one, other := r.Log(), r.Log()
	one = one[:cap(one)]
	for i := range one {
		one[i] = cell.Touch{Who: 9, Place: 9, What: 9, Was: 9, Is: 9}
	}
	wantLog(t, "an answer written over", r, 1, 2)
	wantClaim(t, r, 3, 2, 3, api.OK)
	wantLog(t, "an answer written over", r, 1, 2, 3)
	r.Open()
	r.Claim(5)
	if want := []cell.Touch{{Who: 1, What: add, Was: 0, Is: 1}, {Who: 2, What: add, Was: 1, Is: 2}}; !slices.Equal(other, want) {
		t.Errorf("an answer changed with the row: %v", other)
	}
	for _, x := range one {
		if x.Who != 9 {
			t.Fatalf("a touch was written into an answer: %v", x)
		}
	}
}

// P9.1: claims go on and on where none is left; of their touches the last ones are told, as chapter 3 keeps them.
func TestManyClaims(t *testing.T) {
	r := filled(t, 64, 65)
	r.Open()
	wantClaim(t, r, 0, 0, 64, api.OK)
	wantClaim(t, r, 1, 64, 65, api.OK)
	claims := mostTouches + 50
	for i := 2; i < claims; i++ {
		if a, b, e := r.Claim(i % 64); a != 0 || b != 0 || e != api.ErrEmpty {
			t.Fatalf("claim %d: %d, %d, %d", i, a, b, e)
		}
	}
	l := r.Log()
	if len(l) != mostTouches {
		t.Fatalf("Log: %d touches, want %d", len(l), mostTouches)
	}
	for i, x := range l {
		at := i + claims - mostTouches
		if x != (cell.Touch{Who: at % 64, Place: 0, What: add, Was: at, Is: at + 1}) {
			t.Fatalf("Log: touch %d is %v", at, x)
		}
	}
	r.Open()
	wantParts(t, r, 64, func() int { return 7 })
}

// P9.2: all orders in which a few workers can claim all parts, and claim in vain behind these.
func TestEveryOrder(t *testing.T) {
	for many := range 8 {
		for size := 1; size <= 4; size++ {
			claims := (many+size-1)/size + 3
			orders := 1
			for range min(claims, 7) {
				orders *= 3
			}
			r := filled(t, size, many)
			for order := range orders {
				r.Open()
				left := order
				wantParts(t, r, size, func() int {
					who := left % 3
					left /= 3
					return who
				})
			}
		}
	}
}

// P9.2: every number of roots up to 200, and the edge's, in parts of all sizes, of workers that are drawn: even ones, and such where one goes on for long.
func TestDrawnOrders(t *testing.T) {
	draw := rand.New(rand.NewSource(9))
	many := []int{1000, 1022, 1023, 1024}
	for i := range 201 {
		many = append(many, i)
	}
	for _, n := range many {
		r := map[int]*roots.Roots{}
		for size := 1; size <= 64; size++ {
			r[size] = filled(t, size, n)
		}
		for size := 1; size <= 64; size++ {
			stay, last := draw.Intn(100), 0
			for range 2 {
				r[size].Open()
				wantParts(t, r[size], size, func() int {
					if draw.Intn(100) >= stay {
						last = draw.Intn(64)
					}
					return last
				})
			}
			wantRow(t, "all claimed", r[size], row(n)...)
		}
	}
}

// P9.2: behind Open roots that were pushed and popped meanwhile count as all others.
func TestChangedBetweenOpens(t *testing.T) {
	draw := rand.New(rand.NewSource(3))
	r := filled(t, 7, 0)
	for range 300 {
		for range draw.Intn(20) {
			wantPush(t, r, draw.Intn(100), api.OK)
		}
		for range min(draw.Intn(20), r.Len()) {
			r.Pop()
		}
		for range draw.Intn(5) {
			r.Claim(draw.Intn(64))
		}
		r.Open()
		wantParts(t, r, 7, func() int { return draw.Intn(64) })
		if r.Len() > 900 {
			r = filled(t, 7, 0)
		}
	}
}
