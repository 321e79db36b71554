package alloc_test

import (
	"math"
	"slices"
	"testing"

	"besom/alloc"
	"besom/api"
	"besom/heap"
)

// entry: an object or filler at its address.
type entry struct {
	at int
	x  api.Head
}

// object, filler: heads of so many words, the head too.
func object(words int) api.Head { return api.Head{Kind: 3, Length: words - 1} }
func filler(words int) api.Head { return api.Head{Kind: 15, Length: words - 1} }

func newHeap(t *testing.T, size int) *heap.Heap {
	t.Helper()
	h, e := heap.New(size)
	if h == nil || e != api.OK {
		t.Fatalf("heap.New(%d): %d", size, e)
	}
	return h
}

func newAllocator(t *testing.T, h *heap.Heap, threads, buffer int) *alloc.Allocator {
	t.Helper()
	a, e := alloc.New(h, threads, buffer)
	if a == nil || e != api.OK {
		t.Fatalf("New of %d threads, buffers of %d: %d", threads, buffer, e)
	}
	if a.Heap() != h {
		t.Fatal("Heap: another one")
	}
	return a
}

func wantAlloc(t *testing.T, a *alloc.Allocator, thread int, x api.Head, want int) {
	t.Helper()
	if at, e := a.Alloc(thread, x); at != want || e != api.OK {
		t.Errorf("Alloc(%d, %v): %d, %d, want %d", thread, x, at, e, want)
	}
	if y, e := a.Heap().Head(want); y != x || e != api.OK {
		t.Errorf("behind Alloc(%d, %v): the head at %d: %v, %d", thread, x, want, y, e)
	}
}

func wantNoAlloc(t *testing.T, a *alloc.Allocator, thread int, x api.Head, want api.Errno) {
	t.Helper()
	if at, e := a.Alloc(thread, x); at != 0 || e != want {
		t.Errorf("Alloc(%d, %v): %d, %d, want 0, %d", thread, x, at, e, want)
	}
}

func wantRetire(t *testing.T, a *alloc.Allocator, thread int, want api.Errno) {
	t.Helper()
	if e := a.Retire(thread); e != want {
		t.Errorf("Retire(%d): %d, want %d", thread, e, want)
	}
}

// wantLeft: of each thread, from the first one on.
func wantLeft(t *testing.T, a *alloc.Allocator, left ...int) {
	t.Helper()
	for thread, want := range left {
		if n, e := a.Left(thread); n != want || e != api.OK {
			t.Errorf("Left(%d): %d, %d, want %d", thread, n, e, want)
		}
	}
}

func walked(h *heap.Heap) []entry {
	var l []entry
	for at, x := range h.Walk() {
		l = append(l, entry{at, x})
	}
	return l
}

// wantHeads: just these stand in the heap, one behind the other.
func wantHeads(t *testing.T, h *heap.Heap, heads ...api.Head) {
	t.Helper()
	var want []entry
	top := 0
	for _, x := range heads {
		want = append(want, entry{top, x})
		top += 1 + x.Length
	}
	if got := walked(h); !slices.Equal(got, want) || h.Top() != top {
		t.Errorf("Walk: %v, Top: %d, want %v, %d", got, h.Top(), want, top)
	}
}

func leftOf(t *testing.T, a *alloc.Allocator, threads int) []int {
	t.Helper()
	var l []int
	for thread := range threads {
		n, e := a.Left(thread)
		if e != api.OK {
			t.Fatalf("Left(%d): %d", thread, e)
		}
		l = append(l, n)
	}
	return l
}

// unchanged: runs something that must leave the heap and all buffers as they are (R4).
func unchanged(t *testing.T, a *alloc.Allocator, threads int, run func()) {
	t.Helper()
	h := a.Heap()
	words, top, entries, left := h.Words(), h.Top(), walked(h), leftOf(t, a, threads)
	run()
	if !slices.Equal(h.Words(), words) || h.Top() != top || !slices.Equal(walked(h), entries) {
		t.Errorf("the heap was changed: %v, want %v", h.Words(), words)
	}
	if got := leftOf(t, a, threads); !slices.Equal(got, left) {
		t.Errorf("buffers were changed: %v, want %v", got, left)
	}
}

// badThreads: numbers that are no threads where there are so many.
func badThreads(threads int) []int {
	return []int{-1, -2, -threads, threads, threads + 1, 1 << 32, -1 << 32, math.MinInt, math.MaxInt}
}

// badHeads: some that may not be, and fillers'.
var badHeads = []api.Head{
	{Kind: -1}, {Kind: 16}, {Kind: math.MinInt}, {Kind: math.MaxInt},
	{Length: -1}, {Length: 4096}, {Length: math.MinInt}, {Length: math.MaxInt},
	{Pointers: 1}, {Pointers: -1}, {Length: 2, Pointers: 3}, {Length: 2, Pointers: math.MinInt}, {Length: 2, Pointers: math.MaxInt},
	{Kind: 15, Length: 2, Pointers: 1}, {Kind: 15, Length: -1}, {Kind: 15, Length: 4096},
	{Kind: 15}, {Kind: 15, Length: 1}, {Kind: 15, Length: 3}, {Kind: 15, Length: 4095},
}

// P5.1: the least and the greatest number of threads; at first none has a buffer, and nothing is placed.
func TestNew(t *testing.T) {
	for _, threads := range []int{1, 2, 63, 64} {
		h := newHeap(t, 64*8)
		a := newAllocator(t, h, threads, 8)
		wantLeft(t, a, make([]int, threads)...)
		wantHeads(t, h)
		for thread := range threads {
			wantAlloc(t, a, thread, object(1), 8*thread)
		}
		wantLeft(t, a, slices.Repeat([]int{7}, threads)...)
	}
}

func TestNewRefuses(t *testing.T) {
	h := newHeap(t, 10)
	for _, threads := range []int{0, -1, -64, 65, 1 << 32, 1<<32 + 1, math.MinInt, math.MaxInt} {
		for _, buffer := range []int{8, 0, 4096} {
			if a, e := alloc.New(h, threads, buffer); a != nil || e != api.ErrRange {
				t.Errorf("New of %d threads: %v, %d, want nil, ErrRange", threads, a, e)
			}
		}
	}
	wantHeads(t, h)
}

// P5.1: buffers have 8 to 4,096 words, as near as is told.
func TestBufferSizes(t *testing.T) {
	for _, c := range []struct{ told, want int }{
		{math.MinInt, 8}, {-4096, 8}, {-1, 8}, {0, 8}, {1, 8}, {7, 8}, {8, 8}, {9, 9}, {100, 100},
		{4095, 4095}, {4096, 4096}, {4097, 4096}, {65536, 4096}, {1 << 32, 4096}, {math.MaxInt, 4096},
	} {
		h := newHeap(t, 10000)
		a := newAllocator(t, h, 1, c.told)
		wantAlloc(t, a, 0, object(1), 0)
		wantLeft(t, a, c.want-1)
		wantHeads(t, h, object(1), filler(c.want-1))
		// The size tells what is large, too.
		wantAlloc(t, a, 0, object(c.want/2), 1)
		wantLeft(t, a, c.want-1-c.want/2)
		wantAlloc(t, a, 0, object(c.want/2+1), c.want)
		wantLeft(t, a, c.want-1-c.want/2)
	}
}

// P5.1: an object of half a buffer's words, its head too, is split from it, one of a word more is large; the half of an odd size is rounded down.
func TestLarge(t *testing.T) {
	for _, c := range []struct{ buffer, most int }{{8, 4}, {9, 4}, {10, 5}, {11, 5}, {4095, 2047}, {4096, 2048}} {
		h := newHeap(t, 3*c.buffer)
		a := newAllocator(t, h, 2, c.buffer)
		wantAlloc(t, a, 0, object(c.most+1), 0)
		wantLeft(t, a, 0, 0)
		wantHeads(t, h, object(c.most+1))
		wantAlloc(t, a, 0, object(c.most), c.most+1)
		wantLeft(t, a, c.buffer-c.most, 0)
		wantHeads(t, h, object(c.most+1), object(c.most), filler(c.buffer-c.most))
	}
}

// P5.1: a large object goes to the top, even if it would fit in the buffer, which stays.
func TestLargeLeavesBuffer(t *testing.T) {
	h := newHeap(t, 8000)
	a := newAllocator(t, h, 2, 8)
	wantAlloc(t, a, 0, object(1), 0)
	for _, c := range []struct{ words, at int }{{5, 8}, {7, 13}, {8, 20}, {100, 28}, {4096, 128}} {
		wantAlloc(t, a, 0, object(c.words), c.at)
		wantLeft(t, a, 7, 0)
	}
	wantAlloc(t, a, 0, object(2), 1)
	wantHeads(t, h, object(1), object(2), filler(5), object(5), object(7), object(8), object(100), object(4096))
}

// P5.1: a large object that takes just what is above the top, and one that doesn't fit there: the buffer isn't retired.
func TestLargeWithoutMemory(t *testing.T) {
	h := newHeap(t, 20)
	a := newAllocator(t, h, 2, 8)
	wantAlloc(t, a, 1, object(2), 0)
	unchanged(t, a, 2, func() {
		for _, words := range []int{13, 14, 4096} {
			wantNoAlloc(t, a, 1, object(words), api.ErrMemory)
			wantNoAlloc(t, a, 0, object(words), api.ErrMemory)
		}
	})
	wantAlloc(t, a, 1, object(12), 8)
	unchanged(t, a, 2, func() { wantNoAlloc(t, a, 1, object(5), api.ErrMemory) })
	wantLeft(t, a, 0, 6)
	wantAlloc(t, a, 1, object(4), 2)
	wantHeads(t, h, object(2), object(4), filler(2), object(12))
}

// P5.1: one thread; an object that takes all that is left of a buffer leaves none; one that doesn't fit retires it.
func TestOneThread(t *testing.T) {
	h := newHeap(t, 40)
	a := newAllocator(t, h, 1, 8)
	for _, c := range []struct{ words, at, left int }{
		{4, 0, 4}, {4, 4, 0}, // nothing is left
		{1, 8, 7}, {3, 9, 4}, {3, 12, 1}, {1, 15, 0}, // the last word, a filler's head alone
		{3, 16, 5}, {4, 19, 1}, // a word is left ..
		{2, 24, 6}, {2, 26, 4}, {3, 28, 1}, // .. and retired with this one
		{3, 32, 5},
	} {
		wantAlloc(t, a, 0, object(c.words), c.at)
		wantLeft(t, a, c.left)
	}
	wantHeads(t, h, object(4), object(4), object(1), object(3), object(3), object(1), object(3), object(4), filler(1),
		object(2), object(2), object(3), filler(1), object(3), filler(5))
}

// P5.1: each thread has a buffer of its own, and large objects come between them.
func TestSeveralThreads(t *testing.T) {
	h := newHeap(t, 60)
	a := newAllocator(t, h, 3, 10)
	wantAlloc(t, a, 2, object(2), 0)
	wantAlloc(t, a, 0, object(3), 10)
	wantLeft(t, a, 7, 0, 8)
	wantAlloc(t, a, 1, object(6), 20)
	wantLeft(t, a, 7, 0, 8)
	wantAlloc(t, a, 1, object(5), 26)
	wantAlloc(t, a, 2, object(5), 2)
	wantAlloc(t, a, 0, object(4), 13)
	wantLeft(t, a, 3, 5, 3)
	wantAlloc(t, a, 2, object(4), 36) // doesn't fit in its own: others' aren't taken
	wantAlloc(t, a, 0, object(3), 17)
	wantLeft(t, a, 0, 5, 6)
	wantHeads(t, h, object(2), object(5), filler(3), object(3), object(4), object(3), object(6), object(5), filler(5), object(4), filler(6))
}

// P5.1: all kinds, with pointers; objects are of noughts, whatever stood above the top.
func TestObjectsAreOfNoughts(t *testing.T) {
	words := slices.Repeat([]int{-7}, 200)
	h, _ := heap.Of(words, 0)
	a := newAllocator(t, h, 1, 16)
	at := 0
	for kind := range 15 {
		x := api.Head{Kind: kind, Length: 7, Pointers: kind % 8}
		wantAlloc(t, a, 0, x, at)
		for field := range 7 {
			if n, e := h.Read(at, field); n != 0 || e != api.OK {
				t.Errorf("kind %d, word %d: %d, %d", kind, field, n, e)
			}
			h.Write(at, field, 1)
		}
		at += 8
	}
	wantAlloc(t, a, 0, api.Head{Kind: 14, Length: 9, Pointers: 9}, 128)
	if n, e := h.Read(128, 8); n != 0 || e != api.OK || h.Check() != api.OK {
		t.Errorf("a large one's last word: %d, %d", n, e)
	}
}

// P5.1: objects and fillers that stand in the heap ahead of New are no buffers.
func TestHeapOfOthers(t *testing.T) {
	h := newHeap(t, 40)
	h.Place(filler(8))
	h.Place(object(2))
	a := newAllocator(t, h, 2, 8)
	wantLeft(t, a, 0, 0)
	wantAlloc(t, a, 1, object(1), 10)
	wantLeft(t, a, 0, 7)
	wantHeads(t, h, filler(8), object(2), object(1), filler(7))
}

// P5.1: Retire, with something left, and with nothing; the filler stays; other threads' buffers do, too.
func TestRetire(t *testing.T) {
	h := newHeap(t, 40)
	a := newAllocator(t, h, 2, 8)
	unchanged(t, a, 2, func() { wantRetire(t, a, 0, api.OK) })
	wantAlloc(t, a, 0, object(3), 0)
	wantAlloc(t, a, 1, object(2), 8)
	wantRetire(t, a, 0, api.OK)
	wantLeft(t, a, 0, 6)
	wantHeads(t, h, object(3), filler(5), object(2), filler(6))
	unchanged(t, a, 2, func() { wantRetire(t, a, 0, api.OK) })
	wantAlloc(t, a, 0, object(4), 16)
	wantAlloc(t, a, 0, object(4), 20)
	wantLeft(t, a, 0, 6)
	unchanged(t, a, 2, func() { wantRetire(t, a, 0, api.OK) })
	wantAlloc(t, a, 0, object(1), 24)
	wantAlloc(t, a, 1, object(4), 10)
	wantLeft(t, a, 7, 2)
	wantHeads(t, h, object(3), filler(5), object(2), object(4), filler(2), object(4), object(4), object(1), filler(7))
}

// P5.1: a heap with room for a buffer, to the last word, and with room for the object alone: that is placed at the top, and the thread is without a buffer.
func TestNoRoomForBuffer(t *testing.T) {
	for size, fits := range map[int]bool{16: true, 15: false, 13: false, 12: false, 11: false} {
		h := newHeap(t, size)
		a := newAllocator(t, h, 2, 8)
		wantAlloc(t, a, 1, object(4), 0)
		wantAlloc(t, a, 1, object(2), 4)
		wantLeft(t, a, 0, 2)
		wantAlloc(t, a, 1, object(3), 8)
		if fits {
			wantLeft(t, a, 0, 5)
			wantHeads(t, h, object(4), object(2), filler(2), object(3), filler(5))
		} else {
			wantLeft(t, a, 0, 0)
			wantHeads(t, h, object(4), object(2), filler(2), object(3))
		}
	}
}

// P5.1: a heap with room for neither: ErrMemory, and the buffer is retired by then; the heap is as it was, and other buffers are.
func TestNoMemory(t *testing.T) {
	h := newHeap(t, 18)
	a := newAllocator(t, h, 2, 8)
	wantAlloc(t, a, 0, object(4), 0)
	wantAlloc(t, a, 0, object(1), 4)
	wantAlloc(t, a, 1, object(4), 8)
	words := h.Words()
	wantLeft(t, a, 3, 4)
	wantNoAlloc(t, a, 0, object(4), api.ErrMemory)
	wantLeft(t, a, 0, 4)
	if !slices.Equal(h.Words(), words) {
		t.Errorf("Words: %v, want %v", h.Words(), words)
	}
	wantHeads(t, h, object(4), object(1), filler(3), object(4), filler(4))
	// It would have fitted in the buffer that is retired.
	wantNoAlloc(t, a, 0, object(3), api.ErrMemory)
	wantAlloc(t, a, 0, object(2), 16)
	unchanged(t, a, 2, func() { wantNoAlloc(t, a, 0, object(1), api.ErrMemory) })
	// The other thread's buffer is still there, in a heap that is full.
	wantAlloc(t, a, 1, object(3), 12)
	wantLeft(t, a, 0, 1)
	wantAlloc(t, a, 1, object(1), 15)
	wantLeft(t, a, 0, 0)
	wantNoAlloc(t, a, 1, object(1), api.ErrMemory)
	wantHeads(t, h, object(4), object(1), filler(3), object(4), object(3), object(1), object(2))
}

// P5.1: a heap that is smaller than any buffer.
func TestSmallHeap(t *testing.T) {
	h := newHeap(t, 1)
	a := newAllocator(t, h, 1, 8)
	wantNoAlloc(t, a, 0, object(2), api.ErrMemory)
	wantHeads(t, h)
	wantAlloc(t, a, 0, object(1), 0)
	wantLeft(t, a, 0)
	wantNoAlloc(t, a, 0, object(1), api.ErrMemory)
	wantHeads(t, h, object(1))
}

// P5.1, R2, R4: threads that there aren't, heads that may not be, and a filler's: ErrRange, ahead of ErrMemory, and nothing is changed.
func TestRefuses(t *testing.T) {
	for _, size := range []int{100, 8} {
		h := newHeap(t, size)
		a := newAllocator(t, h, 2, 8)
		wantAlloc(t, a, 0, object(3), 0)
		unchanged(t, a, 2, func() {
			for _, thread := range badThreads(2) {
				wantNoAlloc(t, a, thread, object(2), api.ErrRange)
				wantNoAlloc(t, a, thread, object(200), api.ErrRange)
				wantNoAlloc(t, a, thread, filler(2), api.ErrRange)
				wantRetire(t, a, thread, api.ErrRange)
				if n, e := a.Left(thread); n != 0 || e != api.ErrRange {
					t.Errorf("Left(%d): %d, %d, want 0, ErrRange", thread, n, e)
				}
			}
			for _, x := range badHeads {
				wantNoAlloc(t, a, 0, x, api.ErrRange)
				wantNoAlloc(t, a, 1, x, api.ErrRange)
			}
		})
	}
}

// P5.1: what one allocator keeps is its own: two of them, of two heaps.
func TestTwoAllocators(t *testing.T) {
	a := newAllocator(t, newHeap(t, 20), 1, 8)
	b := newAllocator(t, newHeap(t, 20), 1, 10)
	wantAlloc(t, a, 0, object(2), 0)
	wantLeft(t, b, 0)
	wantAlloc(t, b, 0, object(5), 0)
	wantLeft(t, a, 6)
	wantLeft(t, b, 5)
	wantHeads(t, a.Heap(), object(2), filler(6))
	wantHeads(t, b.Heap(), object(5), filler(5))
}
