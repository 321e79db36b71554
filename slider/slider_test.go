package slider_test

import (
	"fmt"
	"math"
	"slices"
	"testing"

	"besom/api"
	"besom/heap"
	"besom/marks"
	"besom/slider"
)

// P14.1: heaps of all kinds, in regions of all sizes, by one worker, by few, by as many as may be.
func TestPlans(t *testing.T) {
	for _, p := range plans() {
		h, m := p.build(t)
		for _, words := range sizes {
			for _, workers := range []int{1, 2, 3, 5, maxWorkers - 1, maxWorkers} {
				x := begin(t, fmt.Sprintf("%s, regions of %d, %d workers", p.name, words, workers), h, m, words, workers)
				x.finish(inTurn(workers))
			}
		}
	}
}

// P14.1: the heap at the end, written out: what stays, one behind the other, its references turned, its other words as they were, noughts up to the old top, and what stood beyond it.
func TestWrittenOut(t *testing.T) {
	head := func(kind, pointers, length int) int { return kind + 16*pointers + 65536*length }
	h, e := heap.Of([]int{
		head(1, 1, 1), 4, // 0: doesn't stay
		head(15, 0, 0),              // 2: a filler
		head(2, 2, 4), 12, 4, 12, 4, // 3: leads to 11 and to itself; the other two words look as if they did
		head(15, 0, 2), 4, 12, // 8: a filler
		head(3, 3, 3), 0, 12, 4, // 11
		head(4, 0, 0), // 15
		5, 4, 12,      // behind the top
	}, 16)
	if e != api.OK {
		t.Fatalf("heap.Of: %d", e)
	}
	m, _ := marks.New(19)
	for _, at := range []int{2, 3, 4, 8, 11, 16} {
		m.Set(at)
	}
	want := []int{head(2, 2, 4), 6, 1, 12, 4, head(3, 3, 3), 0, 6, 1, 0, 0, 0, 0, 0, 0, 0, 5, 4, 12}
	for _, words := range sizes {
		for workers := 1; workers <= 4; workers++ {
			x := begin(t, fmt.Sprintf("regions of %d, %d workers", words, workers), h, m, words, workers)
			x.finish(inTurn(workers))
			got, _ := x.s.Heap()
			if !slices.Equal(got.Words(), want) || got.Top() != 9 || x.s.Moved() != 2 {
				t.Fatalf("%s: %v, top %d, %d moved, want %v, 9, 2", x.name, got.Words(), got.Top(), x.s.Moved(), want)
			}
		}
	}
}

// P14.1: an empty heap is over at once; nothing is touched.
func TestEmpty(t *testing.T) {
	for _, size := range []int{1, 2, 64, most} {
		h, _ := heap.New(size)
		m, _ := marks.New(size)
		m.Set(size - 1)
		for _, workers := range []int{1, 7, maxWorkers} {
			x := begin(t, fmt.Sprintf("empty, of %d", size), h, m, 2, workers)
			x.wantEnd()
			if x.s.Touches() != 0 {
				t.Fatalf("%s: %d touches", x.name, x.s.Touches())
			}
		}
	}
}

// P14.1: a heap without fillers of which all is marked: nothing is changed, all objects count as moved, one by one, and each of their words is loaded and stored ahead of that.
func TestNothingToBeDone(t *testing.T) {
	p := &plan{name: "all stays", things: numbered(many(5, live(2), live(0), live(5))), spare: 2}
	h, m := p.build(t)
	for _, words := range sizes {
		x := begin(t, fmt.Sprintf("all stays, regions of %d", words), h, m, words, 1)
		done := 0
		for _, o := range x.want.stays {
			ahead := x.touches
			for !x.step(0) {
			}
			if done++; x.moved != done || x.touches-ahead < 2*o.room {
				t.Fatalf("%s: %d moved, with %d touches more, want %d, %d at least", x.name, x.moved, x.touches-ahead, done, 2*o.room)
			}
		}
		x.wantEnd()
		if got, _ := x.s.Heap(); !slices.Equal(got.Words(), h.Words()) || got.Top() != h.Top() {
			t.Fatalf("%s: %v, %d", x.name, got.Words(), got.Top())
		}
	}
}

// P14.1: nothing marked: only noughts are left, one touch each at least.
func TestNothingMarked(t *testing.T) {
	p := &plan{name: "nothing marked", things: many(4, dead(2, 1, 2), dead(0), fill(1), dead(9)), spare: 4, inside: true}
	h, m := p.build(t)
	for _, words := range sizes {
		for _, workers := range []int{1, 4} {
			x := begin(t, fmt.Sprintf("%s, regions of %d", p.name, words), h, m, words, workers)
			x.finish(inTurn(workers))
			if x.want.top != 0 || x.s.Moved() != 0 {
				t.Fatalf("%s: %d words, %d moved", x.name, x.want.top, x.s.Moved())
			}
		}
	}
}

// P14.1: each object in its turn is the only one that stays, or the only one that doesn't.
func TestEachObject(t *testing.T) {
	l := mixed()
	for n := range l {
		for _, stays := range []bool{true, false} {
			p := &plan{name: fmt.Sprintf("object %d, %t", n, stays), things: marking(l, func(i int) bool { return (i == n) == stays }), spare: n % 3}
			h, m := p.build(t)
			for words := 2; words < 30; words++ {
				begin(t, fmt.Sprintf("%s, regions of %d", p.name, words), h, m, words, 1+n%4).finish(inTurn(1 + n%4))
			}
		}
	}
}

// P14.1: whatever an object's kind is, it is moved, and its head stays what it was; a filler isn't.
func TestKinds(t *testing.T) {
	for kind := range filler + 1 {
		p := &plan{name: fmt.Sprintf("kind %d", kind), things: []thing{dead(1), {kind: kind, length: 2, marked: true}, live(1, 3)}, spare: 1}
		if kind != filler {
			p.things[1].pointers, p.things[1].refs = 2, []int{3, 2}
		}
		h, m := p.build(t)
		x := begin(t, p.name, h, m, 2, 2)
		x.finish(inTurn(2))
		if want := 2 - kind/filler; x.s.Moved() != want {
			t.Fatalf("%s: %d moved, want %d", p.name, x.s.Moved(), want)
		}
	}
}

// P14.1: the longest object, with as many references as may be: by words it goes over thousands of regions, and many go where it stood.
func TestLongest(t *testing.T) {
	refs := make([]int, 4095)
	for i := range refs {
		refs[i] = []int{0, 1, 3, 4, 5}[i%5] // the second one doesn't stay
	}
	p := &plan{name: "longest", things: append([]thing{live(0), dead(2), live(1, 3), live(4095, refs...), live(0)}, many(700, live(1, 4), dead(0), live(2, 3, 1))...), spare: 7}
	h, m := p.build(t)
	for _, words := range []int{2, 3, 64, 4096, 5000, most} {
		for _, workers := range []int{1, 3, maxWorkers} {
			begin(t, fmt.Sprintf("longest, regions of %d, %d workers", words, workers), h, m, words, workers).finish(inTurn(workers))
		}
	}
}

// P14.1, P14.3: the greatest heap, in regions of all sizes, by one and by many.
func TestGreatest(t *testing.T) {
	for i, l := range [][]thing{
		many(most/2, dead(0), live(0)),
		append(many(1, dead(0)), many(most-1, live(0))...),
		many(most/16, live(5), dead(3), fill(1), live(3)),
		many(16, live(4095)),
		append(append(many(8, dead(4095)), many(1, live(4095))...), many(7*1024, live(2), live(0))...),
		many(most/4, fill(1), dead(1)),
	} {
		p := &plan{name: fmt.Sprintf("greatest %d", i), things: numbered(l)}
		h, m := p.build(t)
		if h.Size() != most || h.Top() != most {
			t.Fatalf("%s: %d words, top %d", p.name, h.Size(), h.Top())
		}
		for j, n := range []struct{ words, workers int }{{2, 1}, {2, 3}, {3, maxWorkers}, {64, 8}, {4096, 5}, {math.MaxInt, 2}} {
			if (i+j)%2 == 0 || n.words == 2 {
				great(t, fmt.Sprintf("%s, regions of %d, %d workers", p.name, n.words, n.workers), h, m, n.words, n.workers)
			}
		}
	}
}

// great: a sliding of a great heap, all in turn, looked at behind the end alone.
func great(t *testing.T, what string, h *heap.Heap, m *marks.Map, words, workers int) {
	t.Helper()
	x := begin(t, what, h, m, words, workers)
	for i := 0; !x.s.Over(); i++ {
		if e := x.s.Step(i % workers); e != api.OK || i >= workers*rounds(x.top) {
			t.Fatalf("%s: step %d: %d", what, i, e)
		}
	}
	x.touches, x.moved = x.s.Touches(), x.s.Moved()
	x.wantEnd()
}

// far: no numbers of workers; as 32 bits some of it would be.
var far = []int{math.MinInt, math.MinInt + 1, -1 << 32, 1 - 1<<32, -maxWorkers, -2, -1, 0, maxWorkers + 1, 128, 1 << 31, 1 << 32, 1<<32 + 1, 1<<32 + 2, math.MaxInt - 1, math.MaxInt}

// P14.1: New of numbers of workers that may not be: ErrRange, whether an object leads astray or not, and in regions of all sizes.
func TestNewWorkers(t *testing.T) {
	good, m := plans()[0].build(t)
	bad, _ := (&plan{name: "astray", things: []thing{dead(0), live(1, 1)}}).build(t)
	set, _ := marks.New(bad.Size())
	set.Set(1)
	if s, e := slider.New(bad, set, 2, 1); s != nil || e != api.ErrRef {
		t.Fatalf("New of what leads astray: %v, %d", s, e)
	}
	for _, workers := range far {
		for _, words := range sizes {
			if s, e := slider.New(good, m, words, workers); s != nil || e != api.ErrRange {
				t.Errorf("New of %d workers, regions of %d: %v, %d", workers, words, s, e)
			}
			if s, e := slider.New(bad, set, words, workers); s != nil || e != api.ErrRange {
				t.Errorf("New of %d workers, of what leads astray: %v, %d", workers, s, e)
			}
		}
	}
	for workers := 1; workers <= maxWorkers; workers++ {
		begin(t, "as many as may be", good, m, 4, workers).finish(inTurn(workers))
	}
}

// P14.1: New, where one word of one object that stays leads astray: ErrRef; by whichever word, of whichever object, wherever that leads to. Where it isn't a reference, or its object doesn't stay, that is nothing to anyone.
func TestNewAstray(t *testing.T) {
	starts := (&plan{things: mixed()}).starts()
	astray := []int{
		starts[0] + 1, starts[4] + 1, starts[8] + 1, // don't stay
		starts[2] + 1, starts[6] + 1, starts[10] + 1, // fillers, marked ones too
		starts[3] + 2, starts[3] + 3, starts[0] + 2, // inside objects
		starts[12] + 1, starts[12] + 2, starts[12] + 3, // the top, and behind it
		most, most + 1, -1, -2, math.MinInt, math.MinInt + 1, math.MaxInt, 1<<32 + starts[1] + 1, -1<<32 + starts[1] + 1,
	}
	found := 0
	for _, inside := range []bool{false, true} {
		p := &plan{name: "astray", things: numbered(mixed()), spare: 3, inside: inside}
		h, m := p.build(t)
		for at, x := range h.Walk() {
			for field := range x.Length {
				for _, word := range astray {
					words := h.Words()
					words[at+1+field] = word
					wrong, e := heap.Of(words, h.Top())
					if e != api.OK {
						t.Fatalf("heap.Of: %d", e)
					}
					want := api.OK
					if m.Has(at) && x.Kind != filler && field < x.Pointers {
						want = api.ErrRef
						found++
					}
					for _, n := range []int{2, 5, most} {
						if s, e := slider.New(wrong, m, n, 2); e != want || (s == nil) != (want != api.OK) {
							t.Fatalf("New, word %d of the object at %d is %d: %v, %d, want %d", field, at, word, s, e, want)
						}
					}
					if !slices.Equal(wrong.Words(), words) {
						t.Fatalf("New, word %d of the object at %d is %d: the heap is another", field, at, word)
					}
				}
			}
		}
	}
	if found < 200 {
		t.Errorf("only %d led astray", found)
	}
}

// P14.1: New, where the first, a middle and the last one of many references leads astray, of the heap's first and last object.
func TestNewAstrayLong(t *testing.T) {
	for _, at := range []int{0, 4097} {
		for _, field := range []int{0, 1, 2047, 4093, 4094} {
			p := &plan{name: "astray, long", things: []thing{live(4095), dead(0), live(4095)}}
			for i := range p.things {
				p.things[i].pointers = p.things[i].length
			}
			h, m := p.build(t)
			if s, e := slider.New(h, m, 64, 3); s == nil || e != api.OK {
				t.Fatalf("New: %v, %d", s, e)
			}
			h.Write(at, field, 4096+1)
			if s, e := slider.New(h, m, 64, 3); s != nil || e != api.ErrRef {
				t.Errorf("New, reference %d of the object at %d leads to what doesn't stay: %v, %d", field, at, s, e)
			}
			m.Set(4096)
			if s, e := slider.New(h, m, 64, 3); s == nil || e != api.OK {
				t.Errorf("New, that stays now: %v, %d", s, e)
			}
		}
	}
}

// P14.1: Roots: of an empty list, of 0, of the same one twice, of all in any order, ahead of the end and behind it; ErrRef, if one becomes nothing, wherever in the list it stands.
func TestRoots(t *testing.T) {
	p := &plan{name: "roots", things: numbered(mixed()), spare: 3, inside: true}
	h, m := p.build(t)
	starts := p.starts()
	goes := map[int]int{0: 0}
	for _, o := range plain(h, m).stays {
		goes[o.at+1] = o.to + 1
	}
	x := begin(t, p.name, h, m, 4, 2)
	for !x.s.Over() {
		wantRootsOf(t, x.s, goes, starts)
		x.step(x.steps % 2)
	}
	wantRootsOf(t, x.s, goes, starts)
}

func wantRootsOf(t *testing.T, s *slider.Sliding, goes map[int]int, starts []int) {
	t.Helper()
	for _, l := range [][]int{nil, {}} {
		if got, e := s.Roots(l); len(got) != 0 || e != api.OK {
			t.Fatalf("Roots of none: %v, %d", got, e)
		}
	}
	one, two := starts[1]+1, starts[3]+1
	for _, l := range [][]int{{0}, {0, 0, 0}, {one}, {one, one}, {two, 0, one, two}} {
		var want []int
		for _, word := range l {
			want = append(want, goes[word])
		}
		if got, e := s.Roots(l); !slices.Equal(got, want) || e != api.OK {
			t.Fatalf("Roots of %v: %v, %d, want %v", l, got, e, want)
		}
	}
	words := []int{math.MinInt, math.MinInt + 1, -1 << 32, -1<<32 + one, -2, -1, most, most + 1, 1<<32 + one, 1 << 32, math.MaxInt - 1, math.MaxInt}
	for word := range starts[12] + 6 {
		words = append(words, word)
	}
	for _, word := range words {
		to, stays := goes[word]
		for _, l := range [][]int{{word}, {word, one, two}, {one, word, 0}, {one, two, word}} {
			kept := slices.Clone(l)
			got, e := s.Roots(l)
			if stays != (e == api.OK) || !stays && (e != api.ErrRef || len(got) != 0) || stays && !slices.Contains(got, to) || !slices.Equal(l, kept) {
				t.Fatalf("Roots of %v: %v, %d", kept, got, e)
			}
		}
	}
}

// P14.1, R6: a list that is handed to Roots isn't written to in its spare room either, and what is answered has none that is another list's.
func TestRootsSpareRoom(t *testing.T) {
	p := &plan{name: "roots", things: []thing{dead(1), live(0), live(0)}}
	h, m := p.build(t)
	x := begin(t, p.name, h, m, 2, 1)
	all := []int{3, 4, 77, 78, 79}
	one, e := x.s.Roots(all[:2])
	if !slices.Equal(one, []int{1, 2}) || e != api.OK {
		t.Fatalf("Roots: %v, %d", one, e)
	}
	two, _ := x.s.Roots(all[:2])
	for _, l := range [][]int{one[:cap(one)], two[:cap(two)]} {
		for i := range l {
			l[i] = -9
		}
	}
	if three, _ := x.s.Roots(all[:2]); !slices.Equal(three, []int{1, 2}) || !slices.Equal(all, []int{3, 4, 77, 78, 79}) {
		t.Fatalf("Roots: %v, handed in %v", three, all)
	}
}

// P14.1: the calls of where objects go are a sliding's, too, in regions as near to what is told as two words and the heap's most are.
func TestPromoted(t *testing.T) {
	p := &plan{name: "promoted", things: numbered(mixed())}
	h, m := p.build(t)
	for _, words := range sizes {
		x := begin(t, p.name, h, m, words, 2)
		near := min(max(words, 2), most)
		if want := (h.Top() + near - 1) / near; x.s.Len() != want || x.s.Parts().Len() != want {
			t.Errorf("regions of %d: %d, %d, want %d", words, x.s.Len(), x.s.Parts().Len(), want)
		}
		for _, o := range x.want.stays {
			to, e := x.s.To(o.at)
			word, f := x.s.Word(o.at + 1)
			if to != o.to || word != o.to+1 || e != api.OK || f != api.OK || x.s.At(o.at) != o.at/near {
				t.Errorf("regions of %d: the object at %d: To %d, Word %d, At %d", words, o.at, to, word, x.s.At(o.at))
			}
		}
		if x.s.Top() != x.want.top || x.s.Total() != x.want.top {
			t.Errorf("regions of %d: Top %d, Total %d", words, x.s.Top(), x.s.Total())
		}
	}
}

// P14.1: slidings of the same heap hang on one another in nothing, and one can slide what came of another.
func TestSeveralSlidings(t *testing.T) {
	h, m := plans()[0].build(t)
	one, two := begin(t, "one", h, m, 2, 2), begin(t, "two", h, m, 3, 1)
	for i := 0; !one.s.Over(); i++ {
		one.step(i % 2)
		if i%3 == 0 && !two.s.Over() {
			two.step(0)
		}
	}
	two.finish(inTurn(1))
	one.wantEnd()
	got, _ := one.s.Heap()
	again, _ := marks.New(got.Size())
	for at := range got.Walk() {
		again.Set(at)
	}
	three := begin(t, "what came of it", got, again, 4, 3)
	three.finish(inTurn(3))
	if last, _ := three.s.Heap(); !slices.Equal(last.Words(), got.Words()) || three.s.Moved() != one.s.Moved() {
		t.Fatalf("slid once more: %v, %d moved", last.Words(), three.s.Moved())
	}
}
