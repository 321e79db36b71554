package heap_test

import (
	"math"
	"slices"
	"testing"

	"besom/api"
	"besom/heap"
)

// entry: what Walk gives at one place.
type entry struct {
	at int
	x  api.Head
}

// word: the chapter's formula, apart from Pack.
func word(kind, length, pointers int) int { return kind + 16*pointers + 65536*length }

func walked(h *heap.Heap) []entry {
	var l []entry
	for at, x := range h.Walk() {
		l = append(l, entry{at, x})
	}
	return l
}

func of(t *testing.T, words []int, top int) *heap.Heap {
	t.Helper()
	h, e := heap.Of(words, top)
	if h == nil || e != api.OK {
		t.Fatalf("Of(%v, %d): %d", words, top, e)
	}
	return h
}

// sample: an object of two words (one leads), a filler of three that holds words, an object of one that leads, and two words above the top.
func sample(t *testing.T) *heap.Heap {
	t.Helper()
	return of(t, []int{
		word(1, 2, 1), 8, 70,
		word(15, 3, 0), 1, word(2, 0, 0), 3,
		word(2, 1, 1), 1,
		77, 78,
	}, 9)
}

// wantHeap: all that a heap tells of itself.
func wantHeap(t *testing.T, what string, h *heap.Heap, words []int, top int, entries []entry) {
	t.Helper()
	if got := h.Words(); !slices.Equal(got, words) {
		t.Errorf("%s: Words: %v, want %v", what, got, words)
	}
	if h.Size() != len(words) || h.Top() != top {
		t.Errorf("%s: Size %d, Top %d, want %d, %d", what, h.Size(), h.Top(), len(words), top)
	}
	if got := walked(h); !slices.Equal(got, entries) {
		t.Errorf("%s: Walk: %v, want %v", what, got, entries)
	}
}

// unchanged: runs something that must leave the heap as it is (R4).
func unchanged(t *testing.T, what string, h *heap.Heap, run func()) {
	t.Helper()
	words, top, entries := h.Words(), h.Top(), walked(h)
	run()
	wantHeap(t, what, h, words, top, entries)
}

var badHeads = []api.Head{
	{Kind: -1}, {Kind: 16}, {Kind: math.MinInt}, {Kind: math.MaxInt},
	{Length: -1}, {Length: 4096}, {Length: math.MinInt}, {Length: math.MaxInt},
	{Pointers: 1}, {Pointers: -1}, {Length: 2, Pointers: 3}, {Length: 2, Pointers: -1},
	{Length: 4095, Pointers: 4096}, {Length: 4096, Pointers: 4096}, {Length: 2, Pointers: math.MaxInt},
	{Kind: 15, Length: 2, Pointers: 1}, {Kind: 15, Length: 2, Pointers: 2}, {Kind: 15, Length: 2, Pointers: -1},
	{Kind: 15, Length: -1}, {Kind: 15, Length: 4096}, {Kind: -1, Length: -1, Pointers: -1},
}

// P1.1: Pack.
func TestPack(t *testing.T) {
	for _, c := range []struct {
		x    api.Head
		want int
	}{
		{api.Head{}, 0},
		{api.Head{Kind: 1, Length: 2, Pointers: 1}, 131089},
		{api.Head{Kind: 14}, 14},
		{api.Head{Kind: 15}, 15},
		{api.Head{Length: 1}, 65536},
		{api.Head{Length: 1, Pointers: 1}, 65552},
		{api.Head{Kind: 15, Length: 4095}, 15 + 65536*4095},
		{api.Head{Kind: 14, Length: 4095, Pointers: 4095}, 1<<28 - 2},
	} {
		if n, e := heap.Pack(c.x); n != c.want || e != api.OK {
			t.Errorf("Pack(%v): %d, %d, want %d", c.x, n, e, c.want)
		}
	}
	for _, x := range badHeads {
		if n, e := heap.Pack(x); n != 0 || e != api.ErrRange {
			t.Errorf("Pack(%v): %d, %d, want ErrRange", x, n, e)
		}
	}
}

// P1.1: Unpack.
func TestUnpack(t *testing.T) {
	for _, c := range []struct {
		word int
		want api.Head
	}{
		{0, api.Head{}},
		{15, api.Head{Kind: 15}},
		{131089, api.Head{Kind: 1, Length: 2, Pointers: 1}},
		{1<<28 - 2, api.Head{Kind: 14, Length: 4095, Pointers: 4095}},
		{15 + 65536*4095, api.Head{Kind: 15, Length: 4095}},
	} {
		if x, e := heap.Unpack(c.word); x != c.want || e != api.OK {
			t.Errorf("Unpack(%d): %v, %d, want %v", c.word, x, e, c.want)
		}
	}
	for _, n := range []int{
		-1, -16, -65536, math.MinInt, math.MaxInt, 1 << 28, 1<<28 - 1, 1<<32 + 131089, 1 << 62,
		word(0, 0, 1), word(3, 2, 3), word(3, 0, 4095), word(15, 2, 1), word(15, 4095, 4095),
	} {
		if x, e := heap.Unpack(n); x != (api.Head{}) || e != api.ErrHead {
			t.Errorf("Unpack(%d): %v, %d, want ErrHead", n, x, e)
		}
	}
}

// P1.2: a head's word is read as it.
func TestHeadsAreReadBack(t *testing.T) {
	for kind := 0; kind <= 15; kind++ {
		for _, length := range []int{0, 1, 2, 15, 16, 17, 255, 256, 4094, 4095} {
			for pointers := 0; pointers <= length && (kind < 15 || pointers == 0); pointers++ {
				x := api.Head{Kind: kind, Length: length, Pointers: pointers}
				n, e := heap.Pack(x)
				if n != word(kind, length, pointers) || e != api.OK {
					t.Fatalf("Pack(%v): %d, %d", x, n, e)
				}
				if y, e := heap.Unpack(n); y != x || e != api.OK {
					t.Fatalf("Unpack(%d): %v, %d, want %v", n, y, e, x)
				}
			}
		}
	}
}

// P1.2: whatever is read has just that word.
func TestWordsArePackedBack(t *testing.T) {
	read := 0
	check := func(n int) {
		x, e := heap.Unpack(n)
		if e == api.ErrHead && x == (api.Head{}) {
			return
		}
		read++
		if m, f := heap.Pack(x); e != api.OK || m != n || f != api.OK {
			t.Fatalf("Unpack(%d): %v, %d; Pack of that: %d, %d", n, x, e, m, f)
		}
	}
	for n := -70000; n < 300000; n++ {
		check(n)
	}
	for n := 0; n < 1<<29; n += 997 {
		check(n)
	}
	for shift := range 64 {
		for by := -1; by <= 1; by++ {
			check(1<<shift + by)
			check(1<<shift + 131089*by)
		}
	}
	if read < 1000 {
		t.Errorf("only %d words were read", read)
	}
}

// P1.1: New, Size, Top, Words.
func TestNew(t *testing.T) {
	for _, n := range []int{1, 2, 4096, 65535, 65536} {
		h, e := heap.New(n)
		if h == nil || e != api.OK {
			t.Fatalf("New(%d): %d", n, e)
		}
		wantHeap(t, "New", h, make([]int, n), 0, nil)
		if e := h.Check(); e != api.OK {
			t.Errorf("New(%d): Check: %d", n, e)
		}
	}
	for _, n := range []int{0, -1, 65537, math.MinInt, math.MaxInt} {
		if h, e := heap.New(n); h != nil || e != api.ErrRange {
			t.Errorf("New(%d): %d, want ErrRange", n, e)
		}
	}
}

// P1.1: Of.
func TestOf(t *testing.T) {
	wantHeap(t, "Of", sample(t),
		[]int{word(1, 2, 1), 8, 70, word(15, 3, 0), 1, word(2, 0, 0), 3, word(2, 1, 1), 1, 77, 78}, 9,
		[]entry{{0, api.Head{Kind: 1, Length: 2, Pointers: 1}}, {3, api.Head{Kind: 15, Length: 3}}, {7, api.Head{Kind: 2, Length: 1, Pointers: 1}}})
	wantHeap(t, "Of, top 0", of(t, []int{-1, -2}, 0), []int{-1, -2}, 0, nil)
	wantHeap(t, "Of, heads alone", of(t, []int{0, 15, 14}, 3), []int{0, 15, 14}, 3,
		[]entry{{0, api.Head{}}, {1, api.Head{Kind: 15}}, {2, api.Head{Kind: 14}}})
	full := of(t, make([]int, 65536), 65536)
	if full.Size() != 65536 || full.Top() != 65536 || len(walked(full)) != 65536 {
		t.Error("Of the most words")
	}
}

func TestOfRefuses(t *testing.T) {
	for _, c := range []struct {
		words []int
		top   int
		e     api.Errno
	}{
		{nil, 0, api.ErrRange}, {[]int{}, 0, api.ErrRange}, {make([]int, 65537), 0, api.ErrRange},
		{[]int{0}, 2, api.ErrRange}, {[]int{0}, -1, api.ErrRange}, {[]int{0}, math.MaxInt, api.ErrRange}, {[]int{0}, math.MinInt, api.ErrRange},
		// Both are wrong: the range is named first.
		{[]int{-1}, 2, api.ErrRange}, {[]int{-1}, -1, api.ErrRange},
		// No head at first, or further on.
		{[]int{-1}, 1, api.ErrHead}, {[]int{16, 0}, 2, api.ErrHead}, {[]int{word(15, 1, 1), 0}, 2, api.ErrHead},
		{[]int{word(1, 1, 0), 5, -1}, 3, api.ErrHead}, {[]int{0, 0, 1 << 28}, 3, api.ErrHead},
		// The last one goes beyond the top, or beyond the words.
		{[]int{65536}, 1, api.ErrHead}, {[]int{word(1, 2, 0), 0, 0}, 2, api.ErrHead}, {[]int{word(1, 2, 0), 0, 0}, 1, api.ErrHead},
		{[]int{0, word(15, 4095, 0), 0}, 3, api.ErrHead},
	} {
		if h, e := heap.Of(c.words, c.top); h != nil || e != c.e {
			t.Errorf("Of(%d words, %d): %d, want %d", len(c.words), c.top, e, c.e)
		}
	}
}

// P1.1: Place.
func TestPlace(t *testing.T) {
	h := of(t, []int{9, 9, 9, 9, 9, 9, 9}, 0)
	for _, c := range []struct {
		x    api.Head
		want int
	}{{api.Head{Kind: 3, Length: 2, Pointers: 2}, 0}, {api.Head{Kind: 15, Length: 1}, 3}, {api.Head{Kind: 14}, 5}} {
		if at, e := h.Place(c.x); at != c.want || e != api.OK {
			t.Errorf("Place(%v): %d, %d, want %d", c.x, at, e, c.want)
		}
	}
	entries := []entry{{0, api.Head{Kind: 3, Length: 2, Pointers: 2}}, {3, api.Head{Kind: 15, Length: 1}}, {5, api.Head{Kind: 14}}}
	wantHeap(t, "Place", h, []int{word(3, 2, 2), 0, 0, word(15, 1, 0), 0, 14, 9}, 6, entries)
	unchanged(t, "Place beyond the end", h, func() {
		for _, x := range []api.Head{{Length: 1}, {Length: 4095}, {Kind: 15, Length: 1}} {
			if at, e := h.Place(x); at != 0 || e != api.ErrFull {
				t.Errorf("Place(%v): %d, %d, want ErrFull", x, at, e)
			}
		}
	})
	if at, e := h.Place(api.Head{}); at != 6 || e != api.OK || h.Top() != 7 {
		t.Errorf("Place at the last word: %d, %d", at, e)
	}
	unchanged(t, "Place in a full heap", h, func() {
		if at, e := h.Place(api.Head{}); at != 0 || e != api.ErrFull {
			t.Errorf("Place in a full heap: %d, %d", at, e)
		}
		// It wouldn't fit either: the range is named first.
		for _, x := range badHeads {
			if at, e := h.Place(x); at != 0 || e != api.ErrRange {
				t.Errorf("Place(%v): %d, %d, want ErrRange", x, at, e)
			}
		}
	})
}

func TestPlaceTheGreatest(t *testing.T) {
	h, _ := heap.New(65536)
	for k := range 16 {
		if at, e := h.Place(api.Head{Kind: 14, Length: 4095, Pointers: 4095}); at != 4096*k || e != api.OK {
			t.Fatalf("Place %d: %d, %d", k, at, e)
		}
	}
	last := 4096 * 15
	if e := h.Write(0, 4094, last+1); e != api.OK {
		t.Errorf("Write: %d", e)
	}
	if n, e := h.Read(0, 4094); n != last+1 || e != api.OK || h.Top() != 65536 || h.Check() != api.OK {
		t.Errorf("Read: %d, %d", n, e)
	}
}

// P1.1: Split, of a filler of three words that held others.
func TestSplit(t *testing.T) {
	first, last := entry{0, api.Head{Kind: 1, Length: 2, Pointers: 1}}, entry{7, api.Head{Kind: 2, Length: 1, Pointers: 1}}
	for _, c := range []struct {
		x       api.Head
		want    int
		words   []int
		entries []entry
	}{
		{api.Head{Kind: 4, Length: 3, Pointers: 2}, 0, []int{word(4, 3, 2), 0, 0, 0}, []entry{{3, api.Head{Kind: 4, Length: 3, Pointers: 2}}}},
		{api.Head{Kind: 4, Length: 2, Pointers: 1}, 6, []int{word(4, 2, 1), 0, 0, 15}, []entry{{3, api.Head{Kind: 4, Length: 2, Pointers: 1}}, {6, api.Head{Kind: 15}}}},
		{api.Head{Kind: 4, Length: 1}, 5, []int{word(4, 1, 0), 0, word(15, 1, 0), 0}, []entry{{3, api.Head{Kind: 4, Length: 1}}, {5, api.Head{Kind: 15, Length: 1}}}},
		{api.Head{}, 4, []int{0, word(15, 2, 0), 0, 0}, []entry{{3, api.Head{}}, {4, api.Head{Kind: 15, Length: 2}}}},
		{api.Head{Kind: 15, Length: 1}, 5, []int{word(15, 1, 0), 0, word(15, 1, 0), 0}, []entry{{3, api.Head{Kind: 15, Length: 1}}, {5, api.Head{Kind: 15, Length: 1}}}},
		{api.Head{Kind: 15, Length: 3}, 0, []int{word(15, 3, 0), 0, 0, 0}, []entry{{3, api.Head{Kind: 15, Length: 3}}}},
	} {
		h := sample(t)
		if rest, e := h.Split(3, c.x); rest != c.want || e != api.OK {
			t.Errorf("Split(3, %v): %d, %d, want %d", c.x, rest, e, c.want)
		}
		words := slices.Concat([]int{word(1, 2, 1), 8, 70}, c.words, []int{word(2, 1, 1), 1, 77, 78})
		wantHeap(t, "Split", h, words, 9, slices.Concat([]entry{first}, c.entries, []entry{last}))
	}
}

func TestSplitAgain(t *testing.T) {
	h, _ := heap.New(4)
	h.Place(api.Head{Kind: 15, Length: 3})
	for at := range 4 {
		want := (at + 1) % 4
		if rest, e := h.Split(at, api.Head{Kind: at}); rest != want || e != api.OK {
			t.Errorf("Split(%d): %d, %d, want %d", at, rest, e, want)
		}
	}
	wantHeap(t, "Split again", h, []int{0, 1, 2, 3}, 4, []entry{{0, api.Head{}}, {1, api.Head{Kind: 1}}, {2, api.Head{Kind: 2}}, {3, api.Head{Kind: 3}}})
}

func TestSplitRefuses(t *testing.T) {
	h := sample(t)
	bad, long := api.Head{Kind: 16}, api.Head{Length: 4}
	for _, c := range []struct {
		at int
		x  api.Head
		e  api.Errno
	}{
		{1, api.Head{}, api.ErrAddress}, {5, api.Head{}, api.ErrAddress}, {9, api.Head{}, api.ErrAddress}, {11, api.Head{}, api.ErrAddress},
		{-1, api.Head{}, api.ErrAddress}, {math.MaxInt, api.Head{}, api.ErrAddress}, {math.MinInt, api.Head{}, api.ErrAddress},
		{0, api.Head{}, api.ErrHead}, {7, api.Head{}, api.ErrHead},
		{3, long, api.ErrFull}, {3, api.Head{Length: 4095}, api.ErrFull}, {3, api.Head{Kind: 15, Length: 4}, api.ErrFull},
		// More than one is wrong.
		{1, bad, api.ErrAddress}, {1, long, api.ErrAddress}, {0, bad, api.ErrHead}, {0, long, api.ErrHead},
		{3, api.Head{Length: 4096}, api.ErrRange}, {3, api.Head{Kind: 15, Length: 5, Pointers: 1}, api.ErrRange},
	} {
		unchanged(t, "Split", h, func() {
			if rest, e := h.Split(c.at, c.x); rest != 0 || e != c.e {
				t.Errorf("Split(%d, %v): %d, %d, want %d", c.at, c.x, rest, e, c.e)
			}
		})
	}
	for _, x := range badHeads {
		unchanged(t, "Split", h, func() {
			if rest, e := h.Split(3, x); rest != 0 || e != api.ErrRange {
				t.Errorf("Split(3, %v): %d, %d, want ErrRange", x, rest, e)
			}
		})
	}
}

// noAddress: places of the sample where nothing begins: within objects and fillers (one holds a head's word), from the top on, outside.
var noAddress = []int{1, 2, 4, 5, 6, 8, 9, 10, 11, -1, 65536, math.MaxInt, math.MinInt}

// P1.1: Head.
func TestHead(t *testing.T) {
	h := sample(t)
	for _, c := range []entry{{0, api.Head{Kind: 1, Length: 2, Pointers: 1}}, {3, api.Head{Kind: 15, Length: 3}}, {7, api.Head{Kind: 2, Length: 1, Pointers: 1}}} {
		if x, e := h.Head(c.at); x != c.x || e != api.OK {
			t.Errorf("Head(%d): %v, %d, want %v", c.at, x, e, c.x)
		}
	}
	for _, at := range noAddress {
		if x, e := h.Head(at); x != (api.Head{}) || e != api.ErrAddress {
			t.Errorf("Head(%d): %v, %d, want ErrAddress", at, x, e)
		}
	}
	empty, _ := heap.New(1)
	if _, e := empty.Head(0); e != api.ErrAddress {
		t.Errorf("Head(0) of an empty heap: %d", e)
	}
}

// P1.1: Read, of fillers too.
func TestRead(t *testing.T) {
	h := sample(t)
	for _, c := range []struct{ at, field, want int }{{0, 0, 8}, {0, 1, 70}, {3, 0, 1}, {3, 1, 2}, {3, 2, 3}, {7, 0, 1}} {
		if n, e := h.Read(c.at, c.field); n != c.want || e != api.OK {
			t.Errorf("Read(%d, %d): %d, %d, want %d", c.at, c.field, n, e, c.want)
		}
	}
	for _, c := range []struct{ at, field int }{{0, -1}, {0, 2}, {0, math.MaxInt}, {0, math.MinInt}, {3, -1}, {3, 3}, {7, 1}} {
		if n, e := h.Read(c.at, c.field); n != 0 || e != api.ErrField {
			t.Errorf("Read(%d, %d): %d, %d, want ErrField", c.at, c.field, n, e)
		}
	}
	for _, at := range noAddress {
		for _, field := range []int{0, -1, 99} {
			if n, e := h.Read(at, field); n != 0 || e != api.ErrAddress {
				t.Errorf("Read(%d, %d): %d, %d, want ErrAddress", at, field, n, e)
			}
		}
	}
}

// P1.1: Write.
func TestWrite(t *testing.T) {
	for _, c := range []struct{ at, field, word int }{
		{0, 0, 0}, {0, 0, 1}, {0, 0, 8}, {7, 0, 0}, {7, 0, 8},
		{0, 1, 0}, {0, 1, -5}, {0, 1, 2}, {0, 1, 4}, {0, 1, math.MaxInt}, {0, 1, math.MinInt},
	} {
		h := sample(t)
		words := h.Words()
		entries := walked(h)
		if e := h.Write(c.at, c.field, c.word); e != api.OK {
			t.Errorf("Write(%d, %d, %d): %d", c.at, c.field, c.word, e)
		}
		words[c.at+1+c.field] = c.word
		wantHeap(t, "Write", h, words, 9, entries)
		if n, e := h.Read(c.at, c.field); n != c.word || e != api.OK {
			t.Errorf("Read behind Write(%d, %d, %d): %d, %d", c.at, c.field, c.word, n, e)
		}
	}
}

func TestWriteRefuses(t *testing.T) {
	h := sample(t)
	check := func(at, field, word int, want api.Errno) {
		t.Helper()
		unchanged(t, "Write", h, func() {
			if e := h.Write(at, field, word); e != want {
				t.Errorf("Write(%d, %d, %d): %d, want %d", at, field, word, e, want)
			}
		})
	}
	for _, at := range noAddress {
		check(at, 0, 0, api.ErrAddress)
		check(at, -1, -1, api.ErrAddress)
	}
	for _, field := range []int{-1, 2, math.MaxInt, math.MinInt} {
		check(0, field, 0, api.ErrField)
		check(0, field, -1, api.ErrField)
	}
	for _, field := range []int{-1, 0, 1, 2, 3} {
		check(3, field, 0, api.ErrField)
		check(3, field, -1, api.ErrField)
	}
	check(7, 1, 0, api.ErrField)
	check(0, 0, 4, api.ErrRef) // a filler's
	for _, at := range noAddress {
		if at != -1 {
			check(0, 0, at+1, api.ErrRef)
		}
	}
	check(0, 0, -1, api.ErrRef)
	check(0, 0, math.MaxInt, api.ErrRef)
}

// P1.1: what Split makes may be led to, and what it leaves may not.
func TestWriteBehindSplit(t *testing.T) {
	h := sample(t)
	h.Split(3, api.Head{Kind: 4, Length: 1})
	if e := h.Write(0, 0, 4); e != api.OK {
		t.Errorf("Write of what was split off: %d", e)
	}
	if e := h.Write(0, 0, 6); e != api.ErrRef {
		t.Errorf("Write of what is left: %d", e)
	}
	if rest, e := h.Split(5, api.Head{Kind: 5, Length: 1, Pointers: 1}); rest != 0 || e != api.OK {
		t.Errorf("Split of what is left: %d, %d", rest, e)
	}
	if e := h.Write(0, 0, 6); e != api.OK {
		t.Errorf("Write of what was left: %d", e)
	}
	if e := h.Check(); e != api.OK {
		t.Errorf("Check: %d", e)
	}
}

// P1.1 and R9: Walk, as often as it is gone through, as far as it is told.
func TestWalk(t *testing.T) {
	h := sample(t)
	walk, want := h.Walk(), walked(h)
	for stop := 1; stop <= len(want); stop++ {
		for range 2 {
			var got []entry
			walk(func(at int, x api.Head) bool {
				got = append(got, entry{at, x})
				return len(got) < stop
			})
			if !slices.Equal(got, want[:stop]) {
				t.Errorf("Walk up to %d: %v, want %v", stop, got, want[:stop])
			}
		}
	}
	h.Place(api.Head{Kind: 6})
	count := 0
	for range walk {
		count++
	}
	if count != len(want)+1 {
		t.Errorf("Walk behind Place: %d", count)
	}
}

// P7: a walk ends whatever its consumer does with the heap meanwhile.
func TestWalkMeanwhile(t *testing.T) {
	h, _ := heap.New(64)
	h.Place(api.Head{Kind: 15, Length: 9})
	last := -1
	for at := range h.Walk() {
		if at <= last {
			t.Fatalf("Walk: %d behind %d", at, last)
		}
		last = at
		if _, e := h.Head(at); e != api.OK {
			t.Fatalf("Head(%d): %d", at, e)
		}
		h.Split(at, api.Head{Kind: 1})
		h.Place(api.Head{Kind: 15, Length: 2})
	}
	if h.Top() != 64 {
		t.Errorf("Top: %d", h.Top())
	}
}

// P1.1: Check.
func TestCheck(t *testing.T) {
	build := func(first, second int) *heap.Heap {
		return of(t, []int{word(1, 3, 2), first, second, -1, word(15, 1, 0), -1, 0, word(2, 1, 1), 0, 0}, 9)
	}
	for _, c := range []struct {
		word int
		e    api.Errno
	}{
		{0, api.OK}, {1, api.OK}, {7, api.OK}, {8, api.OK},
		{5, api.ErrRef}, {2, api.ErrRef}, {3, api.ErrRef}, {4, api.ErrRef}, {6, api.ErrRef}, {9, api.ErrRef}, {10, api.ErrRef}, {11, api.ErrRef},
		{-1, api.ErrRef}, {math.MinInt, api.ErrRef}, {math.MaxInt, api.ErrRef},
	} {
		for _, h := range []*heap.Heap{build(c.word, 0), build(0, c.word), build(8, c.word)} {
			unchanged(t, "Check", h, func() {
				if e := h.Check(); e != c.e {
					t.Errorf("Check, with %d: %d, want %d", c.word, e, c.e)
				}
			})
		}
	}
	if e := of(t, []int{0, word(1, 1, 1), 3, word(1, 1, 1), 7}, 5).Check(); e != api.ErrRef {
		t.Errorf("Check of the last object: %d", e)
	}
	// What stands from the top on is no object.
	if e := of(t, []int{word(1, 1, 1), 0, word(1, 1, 1), 99}, 2).Check(); e != api.OK {
		t.Errorf("Check of what is above the top: %d", e)
	}
	if e := of(t, []int{word(1, 1, 1), 3, 0}, 2).Check(); e != api.ErrRef {
		t.Errorf("Check of what leads above the top: %d", e)
	}
}

// P1.3: what is handed in stays, spare room too, and isn't kept.
func TestHandedInStays(t *testing.T) {
	whole := []int{word(1, 2, 1), 0, 70, 4, 5, 6}
	was := slices.Clone(whole)
	h := of(t, whole[:4], 3)
	h.Write(0, 0, 1)
	h.Place(api.Head{Kind: 7})
	if !slices.Equal(whole, was) {
		t.Errorf("Of changed what was handed in: %v", whole)
	}
	want := []int{word(1, 2, 1), 1, 70, 7}
	for k := range whole {
		whole[k] = -99
	}
	if got := h.Words(); !slices.Equal(got, want) {
		t.Errorf("Of kept what was handed in: %v", got)
	}
	if got := len(walked(h)); got != 2 {
		t.Errorf("Of kept what was handed in: %d objects", got)
	}
	heap.Of(was, 6)
	if was[3] != 4 || was[0] != word(1, 2, 1) {
		t.Errorf("Of, refused, changed what was handed in: %v", was)
	}
}

// P1.3: answers are new memory, spare room too.
func TestAnswersAreNew(t *testing.T) {
	h := sample(t)
	want := h.Words()
	a, b := h.Words(), h.Words()
	for _, l := range [][]int{a[:cap(a)], b[:cap(b)]} {
		for k := range l {
			l[k] = -7
		}
		if got := h.Words(); !slices.Equal(got, want) {
			t.Fatalf("Words shares the heap's memory: %v", got)
		}
	}
	c, d := h.Words(), h.Words()
	c[0] = -8
	if d[0] == -8 {
		t.Error("two answers of Words share memory")
	}
	h.Write(0, 1, 71)
	if d[2] != 70 {
		t.Error("Words goes on with the heap")
	}
	if again := of(t, d, 9); again.Write(0, 1, 72) != api.OK || d[2] != 70 {
		t.Error("a heap goes on with what it was made of")
	}
}

// TestTwoHeaps: R8: one heap's calls leave another as it is.
func TestTwoHeaps(t *testing.T) {
	a, _ := heap.New(4)
	b, _ := heap.New(4)
	a.Place(api.Head{Kind: 1, Length: 1})
	wantHeap(t, "another heap", b, make([]int, 4), 0, nil)
}
