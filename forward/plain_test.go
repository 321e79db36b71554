package forward_test

import (
	"math/rand"
	"slices"
	"strconv"
	"testing"

	"besom/api"
	"besom/forward"
	"besom/heap"
	"besom/marks"
	"besom/region"
)

// stay: an object that stays: its address, its words, its head too, and where it goes.
type stay struct{ at, room, to int }

// plainStays: the chapter's words, told plainly from the heap's words: all that stays ahead of it, without regions.
func plainStays(h *heap.Heap, m *marks.Map) []stay {
	var l []stay
	words, live := h.Words(), 0
	for at := 0; at < h.Top(); {
		kind, room := words[at]%16, 1+words[at]/65536
		if kind != 15 && m.Has(at) {
			l = append(l, stay{at, room, live})
			live += room
		}
		at += room
	}
	return l
}

// wantPlain: To and Word of all places, and Top, against the plain count.
func wantPlain(t *testing.T, what string, f *forward.Forward, h *heap.Heap, l []stay) {
	t.Helper()
	goes, top := map[int]int{}, 0
	for _, x := range l {
		goes[x.at] = x.to
		top += x.room
	}
	wantAll(t, what, f, h.Size(), top, goes)
}

// wantOrder: P13.2, by what is answered alone: the one ahead goes ahead, with room for it; none goes further back than it was.
func wantOrder(t *testing.T, what string, f *forward.Forward, h *heap.Heap) {
	t.Helper()
	free := 0
	for at, x := range h.Walk() {
		to, e := f.To(at)
		if e != api.OK {
			continue
		}
		if to != free || to > at {
			t.Fatalf("%s: %d goes to %d, want %d, and not beyond where it was", what, at, to, free)
		}
		free = to + 1 + x.Length
	}
	if f.Top() != free {
		t.Fatalf("%s: Top: %d, want %d", what, f.Top(), free)
	}
}

// wantInPlace: P13.2: what has all ahead of it stay, without a filler, stays where it is; all others go ahead of where they were.
func wantInPlace(t *testing.T, what string, f *forward.Forward, h *heap.Heap, m *marks.Map) {
	t.Helper()
	whole := true
	for at, x := range h.Walk() {
		stays := x.Kind != api.Filler && m.Has(at)
		if to, _ := f.To(at); stays && (to == at) != whole {
			t.Fatalf("%s: %d goes to %d; all ahead of it stay: %t", what, at, to, whole)
		}
		whole = whole && stays
	}
}

// drawnHead: an object's or a filler's, mostly a short one.
func drawnHead(r *rand.Rand, fillers int) api.Head {
	length := r.Intn(4)
	switch r.Intn(20) {
	case 0:
		length = r.Intn(200)
	case 1, 2, 3:
		length = r.Intn(12)
	}
	if r.Intn(8) < fillers {
		return fill(length)
	}
	return api.Head{Kind: r.Intn(15), Length: length, Pointers: r.Intn(length + 1)}
}

// drawnHeap: filled up to some top, with some fillers split; the words that lead nowhere look like anything.
func drawnHeap(t *testing.T, r *rand.Rand, size int) *heap.Heap {
	t.Helper()
	h := laid(t, size)
	end, fillers := r.Intn(size+1), r.Intn(4)
	if r.Intn(12) == 0 {
		end = 0
	}
	for h.Top() < end {
		h.Place(drawnHead(r, fillers)) // one that doesn't fit any more is left out
	}
	for at, x := range h.Walk() {
		if x.Kind == api.Filler && r.Intn(3) == 0 {
			h.Split(at, obj(r.Intn(x.Length+1)))
		}
		for field := x.Pointers; field < x.Length; field++ {
			h.Write(at, field, r.Intn(1<<20))
		}
	}
	return h
}

// drawnMarks: none, few, half, most or all of the places, whatever stands there; sometimes all up to one, and few behind.
func drawnMarks(t *testing.T, r *rand.Rand, h *heap.Heap) *marks.Map {
	t.Helper()
	m := marked(t, h)
	of, from := r.Intn(5), 0
	if r.Intn(3) == 0 {
		from = r.Intn(h.Size())
	}
	for at := range h.Size() {
		if at < from || r.Intn(4) < of {
			m.Set(at)
		}
	}
	return m
}

// drawnSize: of regions: mostly a short one, sometimes one that is none.
func drawnSize(r *rand.Rand) int {
	switch r.Intn(6) {
	case 0:
		return sizes[r.Intn(len(sizes))]
	case 1, 2:
		return 1 + r.Intn(500)
	}
	return 1 + r.Intn(12)
}

// P13.1, P13.2: heaps of objects with fillers between, of which some are marked, in regions of sizes of all kinds, against the plain count.
func TestAgainstPlain(t *testing.T) {
	r := rand.New(rand.NewSource(13))
	seen := map[string]int{}
	for range 1500 {
		h := drawnHeap(t, r, 1+r.Intn(400))
		m := drawnMarks(t, r, h)
		words, places := h.Words(), slices.Collect(m.All())
		l := plainStays(h, m)
		for range 4 {
			size := drawnSize(r)
			what := "regions of " + strconv.Itoa(size)
			f := forward.New(h, m, size)
			wantPlain(t, what, f, h, l)
			wantOrder(t, what, f, h)
			wantInPlace(t, what, f, h, m)
			wantParts(t, what, f.Parts(), region.Of(h, m, size), h.Size())
			note(seen, l, f.Parts())
		}
		if !slices.Equal(h.Words(), words) || !slices.Equal(slices.Collect(m.All()), places) {
			t.Fatalf("the heap or the marks are others")
		}
	}
	for _, what := range []string{"nothing stays", "the first one isn't at 0", "where it is", "ahead of where it was", "over its region's end", "into a region ahead", "a region without any", "several in a region"} {
		if seen[what] < 100 {
			t.Errorf("drawn too seldom: %s: %d", what, seen[what])
		}
	}
}

// note counts what was drawn, so that the drawn heaps are known to have all that matters.
func note(seen map[string]int, l []stay, parts region.Regions) {
	if len(l) == 0 {
		seen["nothing stays"]++
	} else if l[0].at > 0 {
		seen["the first one isn't at 0"]++
	}
	for _, x := range l {
		if x.to == x.at {
			seen["where it is"]++
		} else {
			seen["ahead of where it was"]++
		}
		if parts.At(x.at) != parts.At(x.at+x.room-1) {
			seen["over its region's end"]++
		}
		if parts.At(x.at) != parts.At(x.to) {
			seen["into a region ahead"]++
		}
	}
	for k := range parts.Len() {
		switch len(parts.Stays(k)) {
		case 0:
			seen["a region without any"]++
		case 1:
		default:
			seen["several in a region"]++
		}
	}
}

// P13.1, P13.2: the greatest heap, of the shortest and of the longest objects, of mixed ones, and in many sizes of regions.
func TestGreatestHeap(t *testing.T) {
	r := rand.New(rand.NewSource(65536))
	drawn := laid(t, most)
	for drawn.Top() < most {
		drawn.Place(drawnHead(r, 2))
	}
	for _, h := range []*heap.Heap{
		laid(t, most, heads(obj(0), most)...),
		laid(t, most, heads(obj(4095), 16)...),
		laid(t, most, append(heads(obj(4095), 15), heads(fill(0), 4096)...)...),
		drawn,
	} {
		if h.Top() != most {
			t.Fatalf("a heap whose top is %d", h.Top())
		}
		all, half := marked(t, h, allPlaces(most)...), drawnMarks(t, r, h)
		for _, m := range []*marks.Map{all, half, marked(t, h, 0), marked(t, h, most-1), marked(t, h)} {
			l := plainStays(h, m)
			for _, size := range []int{0, 1, 64, 1000, 4096, 4097, most - 1, most, most + 1} {
				what := "greatest, regions of " + strconv.Itoa(size)
				f := forward.New(h, m, size)
				wantPlain(t, what, f, h, l)
				wantOrder(t, what, f, h)
				wantInPlace(t, what, f, h, m)
			}
		}
	}
}
