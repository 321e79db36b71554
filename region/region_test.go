package region_test

import (
	"math"
	"slices"
	"testing"

	"besom/api"
	"besom/heap"
	"besom/marks"
	"besom/region"
)

// most: how many words a heap, or a region, has at most, by the document.
const most = 65536

// one: what is told of a region.
type one struct {
	live, first int
	stays       []int
}

// obj, fill: heads of so many words behind them.
func obj(length int) api.Head  { return api.Head{Kind: 3, Length: length} }
func fill(length int) api.Head { return api.Head{Kind: 15, Length: length} }

// laid: a heap of these, one behind the other.
func laid(t *testing.T, size int, heads ...api.Head) *heap.Heap {
	t.Helper()
	h, e := heap.New(size)
	if e != api.OK {
		t.Fatalf("heap.New(%d): %d", size, e)
	}
	for _, x := range heads {
		if _, e := h.Place(x); e != api.OK {
			t.Fatalf("Place(%v) at %d: %d", x, h.Top(), e)
		}
	}
	return h
}

// marked: marks of a heap, of which these are set.
func marked(t *testing.T, h *heap.Heap, places ...int) *marks.Map {
	t.Helper()
	m, e := marks.New(h.Size())
	if e != api.OK {
		t.Fatalf("marks.New(%d): %d", h.Size(), e)
	}
	for _, at := range places {
		if _, e := m.Set(at); e != api.OK {
			t.Fatalf("Set(%d): %d", at, e)
		}
	}
	return m
}

// allPlaces: of a map of that size.
func allPlaces(size int) []int {
	var l []int
	for at := range size {
		l = append(l, at)
	}
	return l
}

// heads: that many times the same.
func heads(x api.Head, many int) []api.Head { return slices.Repeat([]api.Head{x}, many) }

// wantAll: all that regions tell is just this; asked from the last one on, too.
func wantAll(t *testing.T, what string, r region.Regions, want ...one) {
	t.Helper()
	if n := r.Len(); n != len(want) {
		t.Fatalf("%s: Len: %d, want %d", what, n, len(want))
	}
	total := 0
	for k, x := range want {
		total += x.live
		wantOne(t, what, r, k, x)
	}
	if got := r.Total(); got != total {
		t.Errorf("%s: Total: %d, want %d", what, got, total)
	}
	for k, x := range slices.Backward(want) {
		wantOne(t, what, r, k, x)
	}
}

func wantOne(t *testing.T, what string, r region.Regions, k int, x one) {
	t.Helper()
	if live, first, stays := r.Live(k), r.First(k), r.Stays(k); live != x.live || first != x.first || !slices.Equal(stays, x.stays) {
		t.Fatalf("%s: region %d: Live %d, First %d, Stays %v, want %d, %d, %v", what, k, live, first, stays, x.live, x.first, x.stays)
	}
}

// wantAt: of each address from 0 to below a heap's size its region's number.
func wantAt(t *testing.T, what string, r region.Regions, size, words int) {
	t.Helper()
	for at := range size {
		if k := r.At(at); k != at/words {
			t.Fatalf("%s: At(%d): %d, want %d", what, at, k, at/words)
		}
	}
}

// wantSame: two tell the same.
func wantSame(t *testing.T, what string, a, b region.Regions, size int) {
	t.Helper()
	wantAll(t, what, a, told(b)...)
	for at := range size {
		if j, k := a.At(at), b.At(at); j != k {
			t.Fatalf("%s: At(%d): %d, want %d", what, at, j, k)
		}
	}
}

// told: all that regions tell.
func told(r region.Regions) []one {
	var l []one
	for k := range r.Len() {
		l = append(l, one{r.Live(k), r.First(k), r.Stays(k)})
	}
	return l
}

// mixed: objects at 0, 3, 6, 11, 13, fillers at 4 and 14; its top is 17.
func mixed(t *testing.T) *heap.Heap {
	t.Helper()
	return laid(t, 20, obj(2), obj(0), fill(1), obj(4), obj(1), obj(0), fill(2))
}

// P12.1: a heap of objects and fillers, some of them marked, in regions of all sizes that tell it differently.
func TestMixed(t *testing.T) {
	h := mixed(t)
	m := marked(t, h, 0, 6, 11, 13)
	for words, want := range map[int][]one{
		1: {
			{3, 0, []int{0}}, {0, 3, nil}, {0, 3, nil}, {0, 3, nil}, {0, 3, nil}, {0, 3, nil},
			{5, 3, []int{6}}, {0, 8, nil}, {0, 8, nil}, {0, 8, nil}, {0, 8, nil},
			{2, 8, []int{11}}, {0, 10, nil}, {1, 10, []int{13}}, {0, 11, nil}, {0, 11, nil}, {0, 11, nil},
		},
		2:  {{3, 0, []int{0}}, {0, 3, nil}, {0, 3, nil}, {5, 3, []int{6}}, {0, 8, nil}, {2, 8, []int{11}}, {1, 10, []int{13}}, {0, 11, nil}, {0, 11, nil}},
		3:  {{3, 0, []int{0}}, {0, 3, nil}, {5, 3, []int{6}}, {2, 8, []int{11}}, {1, 10, []int{13}}, {0, 11, nil}},
		4:  {{3, 0, []int{0}}, {5, 3, []int{6}}, {2, 8, []int{11}}, {1, 10, []int{13}}, {0, 11, nil}},
		6:  {{3, 0, []int{0}}, {7, 3, []int{6, 11}}, {1, 10, []int{13}}},
		7:  {{8, 0, []int{0, 6}}, {3, 8, []int{11, 13}}, {0, 11, nil}},
		8:  {{8, 0, []int{0, 6}}, {3, 8, []int{11, 13}}, {0, 11, nil}},
		13: {{10, 0, []int{0, 6, 11}}, {1, 10, []int{13}}},
		14: {{11, 0, []int{0, 6, 11, 13}}, {0, 11, nil}},
		16: {{11, 0, []int{0, 6, 11, 13}}, {0, 11, nil}},
		17: {{11, 0, []int{0, 6, 11, 13}}},
		18: {{11, 0, []int{0, 6, 11, 13}}},
		20: {{11, 0, []int{0, 6, 11, 13}}},
		21: {{11, 0, []int{0, 6, 11, 13}}},
	} {
		r := region.Of(h, m, words)
		wantAll(t, "mixed", r, want...)
		wantAt(t, "mixed", r, h.Size(), words)
	}
}

// P12.1: nothing marked, all marked, only the first and only the last object.
func TestHowMuchIsMarked(t *testing.T) {
	h := mixed(t)
	for _, x := range []struct {
		what   string
		places []int
		want   []one
	}{
		{"nothing", nil, []one{{0, 0, nil}, {0, 0, nil}, {0, 0, nil}, {0, 0, nil}}},
		{"all places", allPlaces(20), []one{{4, 0, []int{0, 3}}, {5, 4, []int{6}}, {3, 9, []int{11, 13}}, {0, 12, nil}}},
		{"all objects", []int{0, 3, 6, 11, 13}, []one{{4, 0, []int{0, 3}}, {5, 4, []int{6}}, {3, 9, []int{11, 13}}, {0, 12, nil}}},
		{"the first object", []int{0}, []one{{3, 0, []int{0}}, {0, 3, nil}, {0, 3, nil}, {0, 3, nil}}},
		{"the last object", []int{13}, []one{{0, 0, nil}, {0, 0, nil}, {1, 0, []int{13}}, {0, 1, nil}}},
	} {
		wantAll(t, x.what, region.Of(h, marked(t, h, x.places...), 5), x.want...)
	}
}

// P12.1: fillers, places inside objects and places from the top on don't stay, though they are marked.
func TestMarkedElsewhere(t *testing.T) {
	h := mixed(t)
	for _, x := range []struct {
		what   string
		places []int
	}{
		{"fillers", []int{4, 14}},
		{"inside objects", []int{1, 2, 7, 8, 9, 10, 12}},
		{"inside fillers", []int{5, 15, 16}},
		{"from the top on", []int{17, 18, 19}},
		{"all of these", []int{1, 2, 4, 5, 7, 8, 9, 10, 12, 14, 15, 16, 17, 18, 19}},
	} {
		m := marked(t, h, x.places...)
		wantAll(t, x.what, region.Of(h, m, 6), one{0, 0, nil}, one{0, 0, nil}, one{0, 0, nil})
		m.Set(6)
		wantAll(t, x.what+", and an object", region.Of(h, m, 6), one{0, 0, nil}, one{5, 0, []int{6}}, one{0, 5, nil})
	}
}

// P12.1: words that look like heads are none inside objects, inside fillers and from the top on; only what is marked stays there.
func TestLooksLikeHeads(t *testing.T) {
	head := func(x api.Head) int {
		w, e := heap.Pack(x)
		if e != api.OK {
			t.Fatalf("Pack(%v): %d", x, e)
		}
		return w
	}
	like := head(obj(1))
	h, e := heap.Of([]int{head(obj(3)), like, like, like, head(fill(2)), like, like, head(obj(1)), like, like, like, like}, 9)
	if e != api.OK {
		t.Fatalf("heap.Of: %d", e)
	}
	r := region.Of(h, marked(t, h, allPlaces(12)...), 2)
	wantAll(t, "like heads", r, one{4, 0, []int{0}}, one{0, 4, nil}, one{0, 4, nil}, one{2, 4, []int{7}}, one{0, 6, nil})
	r = region.Of(h, marked(t, h, 1, 2, 3, 4, 5, 6, 8, 9, 10, 11), 2)
	wantAll(t, "like heads, none marked", r, one{}, one{}, one{}, one{}, one{})
}

// P12.1: all kinds of objects stay, whatever their words lead to; a filler alone doesn't.
func TestKinds(t *testing.T) {
	for kind := range 16 {
		h := laid(t, 10, obj(0), api.Head{Kind: kind, Length: 2}, obj(1))
		r := region.Of(h, marked(t, h, 1, 4), 4)
		if kind == api.Filler {
			wantAll(t, "a filler", r, one{0, 0, nil}, one{2, 0, []int{4}})
		} else {
			wantAll(t, "an object", r, one{3, 0, []int{1}}, one{2, 3, []int{4}})
		}
	}
	h := laid(t, 8, api.Head{Kind: 1, Length: 2, Pointers: 2}, api.Head{Kind: 2, Length: 1, Pointers: 1})
	h.Write(0, 0, 4)
	wantAll(t, "what is led to", region.Of(h, marked(t, h, 0), 8), one{3, 0, []int{0}})
}

// P12.1: a filler's head may be split into objects behind its making: these stay, what is left of it doesn't.
func TestSplit(t *testing.T) {
	h := laid(t, 12, fill(9))
	h.Split(0, obj(2))
	h.Split(3, obj(1))
	wantAll(t, "split", region.Of(h, marked(t, h, allPlaces(12)...), 4), one{5, 0, []int{0, 3}}, one{0, 5, nil}, one{0, 5, nil})
}

// P12.1: sizes of regions are as near as may be to what is told: 1 at least, MaxWords at most.
func TestSizes(t *testing.T) {
	h := laid(t, most, append(heads(obj(1), most/2-2), fill(1), obj(1))...)
	m := marked(t, h, 0, 2, 4, 1000, 32768, most-4, most-2)
	least, greatest := region.Of(h, m, 1), region.Of(h, m, most)
	wantAll(t, "MaxWords", greatest, one{12, 0, []int{0, 2, 4, 1000, 32768, most - 2}})
	wantAt(t, "1", least, most, 1)
	wantAt(t, "MaxWords", greatest, most, most)
	if n := least.Len(); n != most {
		t.Fatalf("regions of one word: Len: %d", n)
	}
	for _, words := range []int{0, -1, -2, -most, -1 << 32, math.MinInt + 1, math.MinInt} {
		wantSame(t, "below 1", region.Of(h, m, words), least, most)
	}
	for _, words := range []int{most + 1, 2 * most, 1 << 32, 1<<32 + 1, 1 << 62, math.MaxInt - 1, math.MaxInt} {
		wantSame(t, "beyond MaxWords", region.Of(h, m, words), greatest, most)
	}
	wantAll(t, "one less", region.Of(h, m, most-1), one{12, 0, []int{0, 2, 4, 1000, 32768, most - 2}}, one{0, 12, nil})
	wantAll(t, "half", region.Of(h, m, most/2), one{8, 0, []int{0, 2, 4, 1000}}, one{4, 8, []int{32768, most - 2}})
}

// P12.1: an empty heap has no regions, whatever is marked.
func TestEmpty(t *testing.T) {
	for _, size := range []int{1, 5, most} {
		h := laid(t, size)
		for _, places := range [][]int{nil, {0}, {size - 1}} {
			m := marked(t, h, places...)
			for _, words := range []int{math.MinInt, -1, 0, 1, 2, size, most, most + 1, math.MaxInt} {
				r := region.Of(h, m, words)
				wantAll(t, "empty", r)
				wantAt(t, "empty", r, size, min(max(words, 1), most))
			}
		}
	}
}

// P12.1: as many regions as have a word below the top: one word less, or more, at a region's end.
func TestTopAtAnEnd(t *testing.T) {
	for _, words := range []int{1, 2, 3, 4, 7, 64, 4096, 20000} {
		for many := 1; many <= 3; many++ {
			for _, x := range []struct{ top, regions int }{
				{many*words - 1, many}, {many * words, many}, {many*words + 1, many + 1},
			} {
				n := x.regions
				if words == 1 {
					n = x.top // one word below an end is itself an end, as each word is
				}
				for _, size := range []int{max(x.top, 1), x.top + 1, most} {
					h := laid(t, size, heads(obj(0), x.top)...)
					if got := region.Of(h, marked(t, h), words).Len(); got != n {
						t.Errorf("top %d, regions of %d: Len: %d, want %d", x.top, words, got, n)
					}
				}
			}
		}
	}
}

// P12.1: an object at the top's very end is in the region in which its head is; a last region may be one word of it.
func TestLastWord(t *testing.T) {
	h := laid(t, 9, obj(3), obj(4))
	m := marked(t, h, 0, 4)
	wantAll(t, "at an end", region.Of(h, m, 3), one{4, 0, []int{0}}, one{5, 4, []int{4}}, one{0, 9, nil})
	wantAll(t, "one beyond", region.Of(h, m, 8), one{9, 0, []int{0, 4}}, one{0, 9, nil})
	wantAll(t, "begins at an end", region.Of(h, m, 4), one{4, 0, []int{0}}, one{5, 4, []int{4}}, one{0, 9, nil})
	wantAll(t, "begins at a region's last word", region.Of(h, m, 5), one{9, 0, []int{0, 4}}, one{0, 9, nil})
	h = laid(t, 9, obj(3), obj(3), obj(0))
	wantAll(t, "one word", region.Of(h, marked(t, h, 8), 4), one{}, one{}, one{1, 0, []int{8}})
}

// P12.1: a long object counts whole where it begins; regions over which it lies have nothing, and go behind it.
func TestLongObject(t *testing.T) {
	h := laid(t, 5000, obj(1), obj(4095), obj(2))
	m := marked(t, h, 0, 2, 4098)
	r := region.Of(h, m, 10)
	if r.Len() != 411 || r.Total() != 4101 {
		t.Fatalf("long: Len %d, Total %d", r.Len(), r.Total())
	}
	wantOne(t, "long", r, 0, one{4098, 0, []int{0, 2}})
	for k := 1; k < 409; k++ {
		wantOne(t, "long", r, k, one{0, 4098, nil})
	}
	wantOne(t, "long", r, 409, one{3, 4098, []int{4098}})
	wantOne(t, "long", r, 410, one{0, 4101, nil})
	m = marked(t, h, 0, 4098)
	r = region.Of(h, m, 10)
	wantOne(t, "long, unmarked", r, 408, one{0, 2, nil})
	wantOne(t, "long, unmarked", r, 409, one{3, 2, []int{4098}})
}

// P12.1: objects of no words: many in one region, or one in each.
func TestNoWords(t *testing.T) {
	h := laid(t, 12, heads(obj(0), 11)...)
	m := marked(t, h, 0, 1, 2, 5, 7, 10, 11)
	wantAll(t, "no words", region.Of(h, m, 3), one{3, 0, []int{0, 1, 2}}, one{1, 3, []int{5}}, one{1, 4, []int{7}}, one{1, 5, []int{10}})
	m = marked(t, h, allPlaces(12)...)
	var want []one
	for at := range 11 {
		want = append(want, one{1, at, []int{at}})
	}
	wantAll(t, "no words, all marked", region.Of(h, m, 1), want...)
}

// P12.1: an address's region is asked of addresses, also where nothing is marked, and of the last one that there can be.
func TestAt(t *testing.T) {
	h := laid(t, most, heads(obj(0), most)...)
	m := marked(t, h)
	for _, words := range []int{1, 2, 3, 5, 63, 64, 65, 1000, 4095, 4096, 32767, 32768, 65535, most} {
		wantAt(t, "greatest", region.Of(h, m, words), most, words)
	}
}

// P12.1: what is handed in stays as it was, whatever is called.
func TestHandedInStays(t *testing.T) {
	h := mixed(t)
	places := []int{0, 4, 7, 11, 18}
	m := marked(t, h, places...)
	words, top, size := h.Words(), h.Top(), h.Size()
	for _, n := range []int{-1, 0, 1, 2, 3, 5, 17, 20, most, math.MaxInt} {
		r := region.Of(h, m, n)
		told(r)
		r.Total()
		for at := range size {
			r.At(at)
		}
		if !slices.Equal(h.Words(), words) || h.Top() != top || h.Size() != size || h.Check() != api.OK {
			t.Fatalf("regions of %d: the heap is another: %v", n, h.Words())
		}
		if got := slices.Collect(m.All()); !slices.Equal(got, places) || m.Size() != size {
			t.Fatalf("regions of %d: the marks are others: %v", n, got)
		}
	}
}

// R6: a list that Stays answered is new memory, its spare room too.
func TestStaysIsNew(t *testing.T) {
	h := laid(t, 12, heads(obj(1), 6)...)
	r := region.Of(h, marked(t, h, 0, 2, 4, 8, 10), 6)
	want := []one{{6, 0, []int{0, 2, 4}}, {4, 6, []int{8, 10}}}
	wantAll(t, "new", r, want...)
	var lists [][]int
	for range 2 {
		for k := range r.Len() {
			lists = append(lists, r.Stays(k))
		}
	}
	for i, l := range lists {
		l = l[:cap(l)]
		for j := range l {
			l[j] = -1 - i
		}
	}
	for i, l := range lists {
		for _, at := range l {
			if at != -1-i {
				t.Fatalf("list %d shares memory with another: %v", i, l)
			}
		}
	}
	wantAll(t, "written over", r, want...)
	copied := r
	for k := range copied.Len() {
		l := append(copied.Stays(k), 77)
		l[0] = -1
	}
	wantAll(t, "written over once more", r, want...)
	wantAll(t, "a copy", copied, want...)
}

// R8: regions of several heaps, and of one by several sizes and marks, know nothing of each other.
func TestApart(t *testing.T) {
	a, b := mixed(t), laid(t, 9, obj(3), obj(4))
	first := region.Of(a, marked(t, a, 0, 6), 7)
	second := region.Of(b, marked(t, b, 4), 3)
	third := region.Of(a, marked(t, a, 13), 14)
	wantAll(t, "first", first, one{8, 0, []int{0, 6}}, one{0, 8, nil}, one{0, 8, nil})
	wantAll(t, "second", second, one{0, 0, nil}, one{5, 0, []int{4}}, one{0, 5, nil})
	wantAll(t, "third", third, one{1, 0, []int{13}}, one{0, 1, nil})
}

// No call panics, of numbers that there aren't either (of which the document promises no answer); nor do those of regions that Of didn't answer.
func TestNoPanic(t *testing.T) {
	h := mixed(t)
	m := marked(t, h, 0, 6)
	for _, r := range []region.Regions{{}, region.Of(laid(t, 3), m, 2), region.Of(h, m, 0), region.Of(h, m, 4), region.Of(h, m, math.MaxInt)} {
		for _, k := range []int{math.MinInt, -1 << 32, -1, r.Len(), r.Len() + 1, most, 1 << 32, math.MaxInt} {
			r.At(k)
			r.Live(k)
			r.First(k)
			r.Stays(k)
		}
		told(r)
		r.Total()
	}
}
