package region_test

import (
	"math/rand"
	"slices"
	"strconv"
	"testing"

	"besom/api"
	"besom/heap"
	"besom/marks"
	"besom/region"
)

// plainRegions: the chapter's words, told plainly from the heap's words, apart from the program's ways to go through it.
func plainRegions(h *heap.Heap, m *marks.Map, size int) []one {
	var l []one
	words := h.Words()
	for from := 0; from < h.Top(); from += size {
		l = append(l, one{})
	}
	for at := 0; at < h.Top(); {
		kind, room := words[at]%16, 1+words[at]/65536
		if kind != 15 && m.Has(at) {
			x := &l[at/size]
			x.live += room
			x.stays = append(x.stays, at)
		}
		at += room
	}
	for k := range l {
		for _, ahead := range l[:k] {
			l[k].first += ahead.live
		}
	}
	return l
}

// drawnHead: an object's or a filler's, mostly a short one.
func drawnHead(r *rand.Rand) api.Head {
	length := r.Intn(4)
	switch r.Intn(20) {
	case 0:
		length = r.Intn(200)
	case 1, 2, 3:
		length = r.Intn(12)
	}
	if r.Intn(4) == 0 {
		return fill(length)
	}
	return api.Head{Kind: r.Intn(15), Length: length, Pointers: r.Intn(length + 1)}
}

// drawnHeap: filled up to some top, with some fillers split; the words that lead nowhere look like anything.
func drawnHeap(t *testing.T, r *rand.Rand, size int) *heap.Heap {
	t.Helper()
	h := laid(t, size)
	end := r.Intn(size + 1)
	if r.Intn(12) == 0 {
		end = 0
	}
	for h.Top() < end {
		h.Place(drawnHead(r)) // one that doesn't fit any more is left out
	}
	for at, x := range h.Walk() {
		if x.Kind == api.Filler && r.Intn(3) == 0 {
			h.Split(at, obj(r.Intn(x.Length+1)))
		}
		for field := x.Pointers; field < x.Length; field++ {
			h.Write(at, field, r.Intn(1<<20))
		}
	}
	return h
}

// drawnMarks: none, few, half, most or all of the places, whatever stands there.
func drawnMarks(t *testing.T, r *rand.Rand, h *heap.Heap) *marks.Map {
	t.Helper()
	m := marked(t, h)
	of := r.Intn(5)
	for at := range h.Size() {
		if r.Intn(4) < of {
			m.Set(at)
		}
	}
	return m
}

// P12.1: heaps of objects with fillers between, some of which are marked, in regions of sizes of all kinds, against the plain count.
func TestAgainstPlain(t *testing.T) {
	r := rand.New(rand.NewSource(12))
	seen := map[string]int{}
	for range 1500 {
		h := drawnHeap(t, r, 1+r.Intn(400))
		m := drawnMarks(t, r, h)
		words, places := h.Words(), slices.Collect(m.All())
		for range 4 {
			size := 1 + r.Intn(12)
			if r.Intn(3) == 0 {
				size = 1 + r.Intn(500)
			}
			got, want := region.Of(h, m, size), plainRegions(h, m, size)
			what := "regions of " + strconv.Itoa(size)
			wantAll(t, what, got, want...)
			wantAt(t, what, got, h.Size(), size)
			note(seen, want, size)
		}
		if !slices.Equal(h.Words(), words) || !slices.Equal(slices.Collect(m.All()), places) {
			t.Fatalf("the heap or the marks are others")
		}
	}
	for _, what := range []string{"no regions", "nothing stays in it", "one stays in it", "several stay in it", "more than its words"} {
		if seen[what] < 100 {
			t.Errorf("drawn too seldom: %s: %d", what, seen[what])
		}
	}
}

// note counts what was drawn, so that the drawn heaps are known to have all that matters.
func note(seen map[string]int, want []one, size int) {
	if len(want) == 0 {
		seen["no regions"]++
	}
	for _, x := range want {
		switch len(x.stays) {
		case 0:
			seen["nothing stays in it"]++
		case 1:
			seen["one stays in it"]++
		default:
			seen["several stay in it"]++
		}
		if x.live > size {
			seen["more than its words"]++
		}
	}
}

// P12.1: the greatest heap, of the shortest and of the longest objects, of mixed ones, and in many sizes of regions.
func TestGreatestHeap(t *testing.T) {
	r := rand.New(rand.NewSource(65536))
	drawn := laid(t, most)
	for drawn.Top() < most {
		drawn.Place(drawnHead(r))
	}
	for _, h := range []*heap.Heap{
		laid(t, most, heads(obj(0), most)...),
		laid(t, most, heads(obj(4095), 16)...),
		laid(t, most, append(heads(obj(4095), 15), heads(fill(0), 4096)...)...),
		drawn,
	} {
		if h.Top() != most {
			t.Fatalf("a heap whose top is %d", h.Top())
		}
		all, half := marked(t, h, allPlaces(most)...), drawnMarks(t, r, h)
		for _, size := range []int{64, 1000, 4095, 4096, 4097, 65535, most} {
			for _, m := range []*marks.Map{all, half, marked(t, h, 0), marked(t, h, most-1)} {
				wantAll(t, "greatest, regions of "+strconv.Itoa(size), region.Of(h, m, size), plainRegions(h, m, size)...)
			}
		}
	}
}

// P12.1: regions of one word in the greatest heap: each object of no words is a region of its own, and goes to where it is.
func TestGreatestOfOneWord(t *testing.T) {
	h := laid(t, most, heads(obj(0), most)...)
	got := region.Of(h, marked(t, h, allPlaces(most)...), 1)
	if got.Len() != most || got.Total() != most {
		t.Fatalf("Len %d, Total %d", got.Len(), got.Total())
	}
	for k := range most {
		wantOne(t, "one word", got, k, one{1, k, []int{k}})
	}
}
