package forward_test

import (
	"math"
	"slices"
	"testing"

	"besom/api"
	"besom/forward"
	"besom/heap"
	"besom/marks"
	"besom/region"
)

// most: how many words a heap, or a region, has at most, by the document.
const most = 65536

// sizes: of regions, of all kinds.
var sizes = []int{math.MinInt, -1, 0, 1, 2, 3, 4, 5, 6, 7, 8, 16, 17, 20, 64, 1000, 4096, most - 1, most, most + 1, 1 << 32, math.MaxInt}

// far: numbers that are no address of any heap.
var far = []int{math.MinInt, math.MinInt + 1, -1 << 32, -most, -2, -1, most, most + 1, 1<<31 - 1, 1 << 31, 1 << 32, 1<<32 + 1, 1<<32 + 3, math.MaxInt - 1, math.MaxInt}

// obj, fill: heads of so many words behind them.
func obj(length int) api.Head  { return api.Head{Kind: 3, Length: length} }
func fill(length int) api.Head { return api.Head{Kind: 15, Length: length} }

// heads: that many times the same.
func heads(x api.Head, many int) []api.Head { return slices.Repeat([]api.Head{x}, many) }

// laid: a heap of these, one behind the other.
func laid(t *testing.T, size int, heads ...api.Head) *heap.Heap {
	t.Helper()
	h, e := heap.New(size)
	if e != api.OK {
		t.Fatalf("heap.New(%d): %d", size, e)
	}
	for _, x := range heads {
		if _, e := h.Place(x); e != api.OK {
			t.Fatalf("Place(%v) at %d: %d", x, h.Top(), e)
		}
	}
	return h
}

// marked: marks of a heap, of which these are set.
func marked(t *testing.T, h *heap.Heap, places ...int) *marks.Map {
	t.Helper()
	m, e := marks.New(h.Size())
	if e != api.OK {
		t.Fatalf("marks.New(%d): %d", h.Size(), e)
	}
	for _, at := range places {
		if _, e := m.Set(at); e != api.OK {
			t.Fatalf("Set(%d): %d", at, e)
		}
	}
	return m
}

// allPlaces: of a map of that size.
func allPlaces(size int) []int {
	var l []int
	for at := range size {
		l = append(l, at)
	}
	return l
}

// wantTo: To of an address, and Word of the reference to it.
func wantTo(t *testing.T, what string, f *forward.Forward, at, want int) {
	t.Helper()
	if to, e := f.To(at); to != want || e != api.OK {
		t.Fatalf("%s: To(%d): %d, %d, want %d", what, at, to, e, want)
	}
	if w, e := f.Word(at + 1); w != want+1 || e != api.OK {
		t.Fatalf("%s: Word(%d): %d, %d, want %d", what, at+1, w, e, want+1)
	}
}

// wantNone: nothing that stays begins there; the word behind it is no reference, unless it is 0.
func wantNone(t *testing.T, what string, f *forward.Forward, at int) {
	t.Helper()
	if to, e := f.To(at); to != 0 || e != api.ErrAddress {
		t.Fatalf("%s: To(%d): %d, %d, want ErrAddress", what, at, to, e)
	}
	want := api.ErrRef
	if at == -1 {
		want = api.OK // the word is 0
	}
	if w, e := f.Word(at + 1); w != 0 || e != want { // beyond the greatest number stands the least one
		t.Fatalf("%s: Word(%d): %d, %d, want 0, %d", what, at+1, w, e, want)
	}
}

// wantAll: of each place, and of numbers far from all, these go there, and no others do; the top is that.
func wantAll(t *testing.T, what string, f *forward.Forward, size, top int, goes map[int]int) {
	t.Helper()
	for at := -1; at <= size+1; at++ {
		if to, stays := goes[at]; stays {
			wantTo(t, what, f, at, to)
		} else {
			wantNone(t, what, f, at)
		}
	}
	for _, at := range far {
		if at < 0 || at > size {
			wantNone(t, what, f, at)
		}
	}
	if w, e := f.Word(0); w != 0 || e != api.OK {
		t.Fatalf("%s: Word(0): %d, %d", what, w, e)
	}
	if got := f.Top(); got != top {
		t.Fatalf("%s: Top: %d, want %d", what, got, top)
	}
}

// wantParts: the regions are just those that chapter 12 answers of the same.
func wantParts(t *testing.T, what string, got, want region.Regions, size int) {
	t.Helper()
	if got.Len() != want.Len() || got.Total() != want.Total() {
		t.Fatalf("%s: Parts: Len %d, Total %d, want %d, %d", what, got.Len(), got.Total(), want.Len(), want.Total())
	}
	for k := range want.Len() {
		if got.Live(k) != want.Live(k) || got.First(k) != want.First(k) || !slices.Equal(got.Stays(k), want.Stays(k)) {
			t.Fatalf("%s: Parts: region %d: Live %d, First %d, Stays %v, want %d, %d, %v", what, k,
				got.Live(k), got.First(k), got.Stays(k), want.Live(k), want.First(k), want.Stays(k))
		}
	}
	for at := range size {
		if got.At(at) != want.At(at) {
			t.Fatalf("%s: Parts: At(%d): %d, want %d", what, at, got.At(at), want.At(at))
		}
	}
}

// wantInAll: in regions of all sizes the same objects go to the same places.
func wantInAll(t *testing.T, what string, h *heap.Heap, m *marks.Map, top int, goes map[int]int) {
	t.Helper()
	for _, words := range sizes {
		f := forward.New(h, m, words)
		wantAll(t, what, f, h.Size(), top, goes)
		wantParts(t, what, f.Parts(), region.Of(h, m, words), h.Size())
	}
}

// mixed: objects at 0, 3, 6, 11, 13, fillers at 4 and 14; its top is 17.
func mixed(t *testing.T) *heap.Heap {
	t.Helper()
	return laid(t, 20, obj(2), obj(0), fill(1), obj(4), obj(1), obj(0), fill(2))
}

// P13.1: a heap of objects and fillers: none marked, some, all, only the first and only the last, in regions of all sizes.
func TestMixed(t *testing.T) {
	h := mixed(t)
	for _, x := range []struct {
		what   string
		places []int
		top    int
		goes   map[int]int
	}{
		{"nothing", nil, 0, nil},
		{"some", []int{3, 6, 13}, 7, map[int]int{3: 0, 6: 1, 13: 6}},
		{"the other ones", []int{0, 11}, 5, map[int]int{0: 0, 11: 3}},
		{"all objects", []int{0, 3, 6, 11, 13}, 12, map[int]int{0: 0, 3: 3, 6: 4, 11: 9, 13: 11}},
		{"all places", allPlaces(20), 12, map[int]int{0: 0, 3: 3, 6: 4, 11: 9, 13: 11}},
		{"the first one", []int{0}, 3, map[int]int{0: 0}},
		{"the last one", []int{13}, 1, map[int]int{13: 0}},
		{"the one between", []int{6}, 5, map[int]int{6: 0}},
	} {
		wantInAll(t, x.what, h, marked(t, h, x.places...), x.top, x.goes)
	}
}

// P13.1: the first object that stays goes to 0, wherever it is.
func TestFirst(t *testing.T) {
	h := laid(t, 40, append([]api.Head{fill(2), obj(0), obj(3)}, heads(obj(1), 15)...)...)
	first := []int{3, 4}
	for k := range 15 {
		first = append(first, 8+2*k)
	}
	for k, at := range first {
		for _, words := range sizes {
			f := forward.New(h, marked(t, h, first[k:]...), words)
			wantTo(t, "first", f, at, 0)
			for _, ahead := range first[:k] {
				wantNone(t, "ahead of the first", f, ahead)
			}
		}
	}
}

// P13.1: fillers, places inside objects and inside fillers, and all from the top on go nowhere, though they are marked.
func TestMarkedElsewhere(t *testing.T) {
	h := mixed(t)
	for _, x := range []struct {
		what   string
		places []int
	}{
		{"fillers", []int{4, 14}},
		{"inside objects that stay", []int{7, 8, 9, 10}},
		{"inside objects that don't", []int{1, 2, 12}},
		{"inside fillers", []int{5, 15, 16}},
		{"the top", []int{17}},
		{"behind the top", []int{18, 19}},
		{"all of these", []int{1, 2, 4, 5, 7, 8, 9, 10, 12, 14, 15, 16, 17, 18, 19}},
	} {
		m := marked(t, h, x.places...)
		wantInAll(t, x.what, h, m, 0, nil)
		m.Set(6)
		m.Set(13)
		wantInAll(t, x.what+", and objects", h, m, 6, map[int]int{6: 0, 13: 5})
	}
}

// P13.1: words that look like heads, or like references, are none inside objects, inside fillers and from the top on.
func TestLooksLikeHeads(t *testing.T) {
	like, e := heap.Pack(obj(1))
	if e != api.OK {
		t.Fatalf("Pack: %d", e)
	}
	three, _ := heap.Pack(obj(3))
	filler, _ := heap.Pack(fill(2))
	h, e := heap.Of([]int{three, like, like, like, filler, like, like, like, like, like, like, like}, 9)
	if e != api.OK {
		t.Fatalf("heap.Of: %d", e)
	}
	wantInAll(t, "like heads", h, marked(t, h, allPlaces(12)...), 6, map[int]int{0: 0, 7: 4})
	wantInAll(t, "like heads, the last one", h, marked(t, h, 1, 2, 3, 4, 5, 6, 7, 8, 9, 10, 11), 2, map[int]int{7: 0})
}

// P13.1: objects of all kinds go, whatever they lead to; a filler doesn't.
func TestKinds(t *testing.T) {
	for kind := range 16 {
		h := laid(t, 10, obj(0), api.Head{Kind: kind, Length: 2}, obj(1))
		m := marked(t, h, 1, 4)
		if kind == api.Filler {
			wantInAll(t, "a filler", h, m, 2, map[int]int{4: 0})
		} else {
			wantInAll(t, "an object", h, m, 5, map[int]int{1: 0, 4: 3})
		}
	}
	h := laid(t, 8, api.Head{Kind: 1, Length: 2, Pointers: 2}, api.Head{Kind: 2, Length: 1, Pointers: 1})
	h.Write(0, 0, 4)
	h.Write(3, 0, 1)
	wantInAll(t, "what is led to", h, marked(t, h, 0), 3, map[int]int{0: 0})
	wantInAll(t, "what leads there", h, marked(t, h, 3), 2, map[int]int{3: 0})
}

// P13.1: a filler that was split: the objects in its place go, what is left of it doesn't.
func TestSplit(t *testing.T) {
	h := laid(t, 16, fill(1), fill(9), obj(1))
	h.Split(2, obj(2))
	h.Split(5, obj(1))
	wantInAll(t, "split", h, marked(t, h, allPlaces(16)...), 7, map[int]int{2: 0, 5: 3, 12: 5})
}

// P13.1: objects that go over a region's end, or over many regions in which nothing begins then: what is behind goes behind all their words.
func TestOverAnEnd(t *testing.T) {
	h := laid(t, 5000, obj(1), obj(4095), obj(2), obj(0), fill(3), obj(5))
	for _, words := range []int{1, 2, 3, 5, 10, 64, 100, 2048, 4095, 4096, 4097, 4098, 4099, 5000, most} {
		f := forward.New(h, marked(t, h, 0, 2, 4098, 4101, 4106), words)
		wantAll(t, "long", f, 5000, 4108, map[int]int{0: 0, 2: 2, 4098: 4098, 4101: 4101, 4106: 4102})
		f = forward.New(h, marked(t, h, 2, 4098, 4106), words)
		wantAll(t, "long, first", f, 5000, 4105, map[int]int{2: 0, 4098: 4096, 4106: 4099})
		f = forward.New(h, marked(t, h, 0, 4098, 4101, 4106), words)
		wantAll(t, "long, not marked", f, 5000, 12, map[int]int{0: 0, 4098: 2, 4101: 5, 4106: 6})
		f = forward.New(h, marked(t, h, 2), words)
		wantAll(t, "long alone", f, 5000, 4096, map[int]int{2: 0})
	}
}

// P13.1: regions in which nothing begins, or nothing that stays, in front, between and behind.
func TestEmptyRegions(t *testing.T) {
	h := laid(t, 64, append(append(heads(obj(1), 8), fill(15)), heads(obj(3), 8)...)...)
	wantInAll(t, "between", h, marked(t, h, 2, 14, 40, 60), 12, map[int]int{2: 0, 14: 2, 40: 4, 60: 8})
	wantInAll(t, "in front", h, marked(t, h, 48, 56), 8, map[int]int{48: 0, 56: 4})
	wantInAll(t, "behind", h, marked(t, h, 0, 4, 6), 6, map[int]int{0: 0, 4: 2, 6: 4})
}

// P13.1: an empty heap: nothing goes anywhere, whatever is marked.
func TestEmpty(t *testing.T) {
	for _, size := range []int{1, 5, 64, 65} {
		h := laid(t, size)
		for _, places := range [][]int{nil, {0}, {size - 1}, allPlaces(size)} {
			wantInAll(t, "empty", h, marked(t, h, places...), 0, nil)
		}
	}
	h := laid(t, most)
	for _, words := range []int{math.MinInt, 0, 1, most, math.MaxInt} {
		wantAll(t, "empty, the greatest", forward.New(h, marked(t, h, 0, most-1), words), most, 0, nil)
	}
}

// P13.1: heaps of fillers alone.
func TestFillersAlone(t *testing.T) {
	h := laid(t, 12, fill(0), fill(0), fill(3), fill(5))
	wantInAll(t, "fillers", h, marked(t, h, allPlaces(12)...), 0, nil)
}

// P13.1: a heap of one word, and one of one object that fills it.
func TestOneObject(t *testing.T) {
	h := laid(t, 1, obj(0))
	wantInAll(t, "one word", h, marked(t, h, 0), 1, map[int]int{0: 0})
	wantInAll(t, "one word, not marked", h, marked(t, h), 0, nil)
	h = laid(t, 9, obj(8))
	wantInAll(t, "one object", h, marked(t, h, 0), 9, map[int]int{0: 0})
	wantInAll(t, "one object, its last word", h, marked(t, h, 8), 0, nil)
}

// P13.1: objects of no words: many in one region, or one in each.
func TestNoWords(t *testing.T) {
	h := laid(t, 13, heads(obj(0), 12)...)
	wantInAll(t, "no words", h, marked(t, h, 0, 1, 4, 7, 8, 11, 12), 6, map[int]int{0: 0, 1: 1, 4: 2, 7: 3, 8: 4, 11: 5})
	goes := map[int]int{}
	for at := range 12 {
		goes[at] = at
	}
	wantInAll(t, "no words, all marked", h, marked(t, h, allPlaces(13)...), 12, goes)
}

// P13.1: Word of 0 is 0, whether something stays at 0 or not; 1 leads to what is at 0.
func TestWordOfNone(t *testing.T) {
	h := mixed(t)
	for _, words := range sizes {
		for _, places := range [][]int{nil, {0}, {3}, {0, 3, 6, 11, 13}} {
			f := forward.New(h, marked(t, h, places...), words)
			if w, e := f.Word(0); w != 0 || e != api.OK {
				t.Fatalf("Word(0): %d, %d", w, e)
			}
		}
		f := forward.New(h, marked(t, h, 3), words)
		if w, e := f.Word(1); w != 0 || e != api.ErrRef {
			t.Fatalf("Word(1): %d, %d, want ErrRef", w, e)
		}
		f = forward.New(h, marked(t, h, 0), words)
		if w, e := f.Word(1); w != 1 || e != api.OK {
			t.Fatalf("Word(1): %d, %d, want 1", w, e)
		}
	}
}

// P13.1: wrong numbers beside a full heap, which has no place from its top on: To is ErrAddress, Word is ErrRef.
func TestFull(t *testing.T) {
	h := laid(t, 12, obj(3), fill(1), obj(2), obj(2))
	wantInAll(t, "full", h, marked(t, h, allPlaces(12)...), 10, map[int]int{0: 0, 6: 4, 9: 7})
}

// P13.1: the way that the regions are told is promoted: each of their calls answers of a Forward as of Parts.
func TestPromoted(t *testing.T) {
	h := mixed(t)
	m := marked(t, h, 0, 6, 11)
	for _, words := range sizes {
		f := forward.New(h, m, words)
		wantParts(t, "promoted", f.Regions, region.Of(h, m, words), h.Size())
		if f.Len() != f.Parts().Len() || f.Total() != f.Top() || f.At(6) != f.Parts().At(6) {
			t.Fatalf("promoted: Len %d, Total %d, At %d", f.Len(), f.Total(), f.At(6))
		}
		for k := range f.Len() {
			if f.Live(k) != f.Parts().Live(k) || f.First(k) != f.Parts().First(k) || !slices.Equal(f.Stays(k), f.Parts().Stays(k)) {
				t.Fatalf("promoted: region %d", k)
			}
		}
	}
}

// P13.1: what is handed in stays as it was, whatever is called.
func TestHandedInStays(t *testing.T) {
	h := mixed(t)
	places := []int{0, 4, 7, 11, 18}
	m := marked(t, h, places...)
	words, top, size := h.Words(), h.Top(), h.Size()
	for _, n := range sizes {
		f := forward.New(h, m, n)
		wantAll(t, "handed in", f, size, 5, map[int]int{0: 0, 11: 3})
		f.Parts()
		if !slices.Equal(h.Words(), words) || h.Top() != top || h.Size() != size || h.Check() != api.OK {
			t.Fatalf("regions of %d: the heap is another: %v", n, h.Words())
		}
		if got := slices.Collect(m.All()); !slices.Equal(got, places) || m.Size() != size {
			t.Fatalf("regions of %d: the marks are others: %v", n, got)
		}
	}
}

// R6: a list that Parts' regions answered is new memory, its spare room too: written over it changes no later answer.
func TestStaysIsNew(t *testing.T) {
	h := laid(t, 12, heads(obj(1), 6)...)
	m := marked(t, h, 0, 2, 4, 8, 10)
	f := forward.New(h, m, 6)
	before, want := f.Parts(), region.Of(h, m, 6)
	for range 2 {
		for _, parts := range []region.Regions{f.Parts(), before, f.Regions} {
			for k := range parts.Len() {
				l := parts.Stays(k)
				l = l[:cap(l)]
				for j := range l {
					l[j] = -1
				}
			}
		}
	}
	for _, parts := range []region.Regions{f.Parts(), before, f.Regions} {
		wantParts(t, "written over", parts, want, 12)
	}
	wantAll(t, "written over", f, 12, 10, map[int]int{0: 0, 2: 2, 4: 4, 8: 6, 10: 8})
}

// R8: those of several heaps, and of one by several sizes and marks, know nothing of each other.
func TestApart(t *testing.T) {
	a, b := mixed(t), laid(t, 9, obj(3), obj(4))
	first := forward.New(a, marked(t, a, 3, 6), 7)
	second := forward.New(b, marked(t, b, 4), 3)
	third := forward.New(a, marked(t, a, 13), 14)
	for range 2 {
		wantAll(t, "first", first, 20, 6, map[int]int{3: 0, 6: 1})
		wantAll(t, "second", second, 9, 5, map[int]int{4: 0})
		wantAll(t, "third", third, 20, 1, map[int]int{13: 0})
	}
}

// P13.2: where all that is ahead of an object stays, and there is no filler, it stays where it is.
func TestStaysWhereItIs(t *testing.T) {
	h := laid(t, 30, obj(2), obj(0), obj(4), obj(1), obj(0), obj(3), fill(0), obj(1), obj(2))
	begins := []int{0, 3, 4, 9, 11, 12}
	for many := range len(begins) + 1 {
		for _, words := range sizes {
			f := forward.New(h, marked(t, h, begins[:many]...), words)
			for _, at := range begins[:many] {
				wantTo(t, "all ahead stay", f, at, at)
			}
		}
	}
	for _, words := range sizes {
		f := forward.New(h, marked(t, h, append(begins, 16, 17, 19)...), words)
		wantTo(t, "the last one ahead of the filler", f, 12, 12)
		wantTo(t, "the first one behind the filler", f, 17, 16)
		wantTo(t, "the next one", f, 19, 18)
	}
}

// No call panics: of a Forward that New didn't answer neither.
func TestNoPanic(t *testing.T) {
	f := &forward.Forward{}
	wantAll(t, "none that New answered", f, 3, 0, nil)
	wantParts(t, "none that New answered", f.Parts(), region.Regions{}, 3)
}
