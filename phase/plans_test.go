package phase_test

import (
	"fmt"
	"math/rand"
	"slices"
	"testing"

	"besom/api"
	"besom/heap"
)

// filler: its kind, by the document.
const filler = 15

// thing: what stands in a heap, an object or a filler. The numbers in refs are places among the things, and 1; 0 is none; those that aren't told are 0.
type thing struct {
	kind, length, pointers int
	refs                   []int
}

// plan: things, one behind the other, roots by the same numbers as refs, and so many words behind the top.
type plan struct {
	name   string
	things []thing
	roots  []int
	spare  int
}

// object: one of so many words, which leads there by its first ones.
func object(length int, refs ...int) thing {
	return thing{kind: length % filler, length: length, pointers: len(refs), refs: refs}
}

// open: one of whose words all are references; those that aren't told are 0.
func open(length int, refs ...int) thing {
	return thing{kind: 1, length: length, pointers: length, refs: refs}
}

func fill(length int) thing { return thing{kind: filler, length: length} }

// many: the same things so many times; what they lead to is the same then.
func many(times int, l ...thing) []thing {
	var all []thing
	for range times {
		all = append(all, l...)
	}
	return all
}

// headOf: a head's word.
func headOf(kind, pointers, length int) int { return kind + 16*pointers + 65536*length }

// starts: where each thing begins, and the top.
func (p *plan) starts() []int {
	l := []int{0}
	for i, x := range p.things {
		l = append(l, l[i]+1+x.length)
	}
	return l
}

// build: the heap and its roots. Words that are no references look like such, or like heads.
func (p *plan) build(t *testing.T) (*heap.Heap, []int) {
	t.Helper()
	starts := p.starts()
	top := starts[len(p.things)]
	words := make([]int, max(1, top+p.spare))
	for i := range words {
		words[i] = []int{starts[i%len(starts)] + 1, headOf(3, 0, 1), filler, 1, i + 1}[i%5]
	}
	leads := func(ref int) int {
		if ref == 0 {
			return 0
		}
		return starts[ref-1] + 1
	}
	for i, x := range p.things {
		at := starts[i]
		words[at] = headOf(x.kind, x.pointers, x.length)
		for field := range x.pointers {
			words[at+1+field] = 0
			if field < len(x.refs) {
				words[at+1+field] = leads(x.refs[field])
			}
		}
	}
	h, e := heap.Of(words, top)
	if e != api.OK {
		t.Fatalf("%s: heap.Of: %d", p.name, e)
	}
	var roots []int
	for _, ref := range p.roots {
		roots = append(roots, leads(ref))
	}
	return h, roots
}

// mixed: objects that are reached, others that aren't but lead to such, and fillers; some lead to themselves, to one another, to the same one.
func mixed() []thing {
	return []thing{
		object(2, 4, 1),       // 1: not reached
		object(3, 4, 6),       // 2
		fill(1),               // 3
		object(1, 2),          // 4
		object(0),             // 5: not reached
		open(4, 6, 0, 9, 6),   // 6
		fill(0),               // 7
		object(5, 8, 2),       // 8: not reached
		object(2),             // 9
		object(2, 10, 9),      // 10
		fill(2),               // 11
		object(1, 8),          // 12: not reached
		open(3, 13, 2, 14),    // 13
		object(0),             // 14
		object(3, 4, 13, 6),   // 15: not reached
		object(6, 10, 10, 10), // 16
	}
}

// row: each leads to the next one; between all of them one of so many words that nothing leads to.
func row(n, between int) []thing {
	var l []thing
	for i := range n {
		next := 2*i + 3
		if i == n-1 {
			next = 0
		}
		l = append(l, object(2, next), object(between))
	}
	return l
}

// star: one that leads to so many others, each of which leads back.
func star(n int) []thing {
	var refs []int
	for i := range n {
		refs = append(refs, i+2)
	}
	return append([]thing{object(n, refs...)}, many(n, object(1, 1))...)
}

// stars: some of so many references, to one another and to one more, with fillers between.
func stars(times, n int) []thing {
	var l []thing
	for i := range times {
		refs := make([]int, n)
		for k := range refs {
			refs[k] = 2*times + 1
			if k%4 == 0 {
				refs[k] = 1 + 2*((i+k+1)%times)
			}
		}
		l = append(l, object(n+1, refs...), fill(i%3))
	}
	return append(l, object(3))
}

// plans: heaps and roots of all kinds.
func plans() []*plan {
	return []*plan{
		{name: "mixed", things: mixed(), roots: []int{2, 0, 13, 10, 16, 2}, spare: 3},
		{name: "mixed, other roots", things: mixed(), roots: []int{16}, spare: 1},
		{name: "mixed, one root many times", things: mixed(), roots: []int{13, 13, 0, 13, 13, 0, 0, 13}},
		{name: "all reached", things: mixed(), roots: []int{1, 2, 4, 5, 6, 8, 9, 10, 12, 13, 14, 15, 16}, spare: 2},
		{name: "all reached, without fillers", things: star(12), roots: []int{5}, spare: 2},
		{name: "nothing reached", things: mixed(), spare: 2},
		{name: "nothing reached, roots of 0", things: mixed(), roots: []int{0, 0, 0}},
		{name: "the first one", things: mixed(), roots: []int{14, 0}, spare: 4},
		{name: "the last one", things: append(many(9, object(2)), object(4)), roots: []int{0, 10}},
		{name: "themselves", things: []thing{object(1, 1), object(2, 2, 2), fill(3), object(1, 4), open(3, 5, 5, 5)}, roots: []int{5, 2}},
		{name: "one another", things: []thing{object(2, 2), object(1, 1), object(3, 4), object(1, 3), object(2, 6, 5), object(2, 5, 6)}, roots: []int{4, 6}, spare: 1},
		{name: "row", things: row(25, 3), roots: []int{1}, spare: 1},
		{name: "row, from its middle on", things: row(25, 0), roots: []int{25, 31}},
		{name: "star", things: star(30), roots: []int{0, 1}},
		{name: "stars", things: stars(4, 9), roots: []int{3}, spare: 5},
		{name: "no words, one behind", things: append(many(1, object(0)), many(20, object(0))...), roots: []int{2, 3, 4, 5, 6, 7, 8, 9, 10, 11, 12, 13, 14, 15, 16, 17, 18, 19, 20, 21}},
		{name: "nothing to be moved far", things: append(many(6, object(2)), object(7, 1, 2, 3, 4, 5, 6)), roots: []int{7}},
		{name: "far", things: append(many(1, fill(30)), object(2, 3), object(1, 2)), roots: []int{3}},
		{name: "fillers alone", things: many(4, fill(0), fill(3)), roots: []int{0}, spare: 1},
		{name: "one word", things: many(1, object(0)), roots: []int{1}},
		{name: "one word, not reached", things: many(1, object(0))},
		{name: "one word, a filler", things: many(1, fill(0)), spare: 3},
		{name: "empty", spare: 5},
		{name: "empty, with roots", roots: []int{0, 0, 0, 0}, spare: 1},
	}
}

// drawn: objects and fillers, references and roots by draws; the denser, the more is reached.
func drawn(draw *rand.Rand, words int) *plan {
	p := &plan{name: "drawn", spare: draw.Intn(4)}
	objects := []int{0}
	for n, longest := 0, 1+draw.Intn(10); n < words; {
		x := thing{kind: draw.Intn(filler + 1), length: draw.Intn(longest)}
		if draw.Intn(5) == 0 {
			x.kind = filler
		}
		p.things = append(p.things, x)
		if x.kind != filler {
			objects = append(objects, len(p.things))
		}
		n += 1 + x.length
	}
	dense := 1 + draw.Intn(5)
	ref := func() int {
		if draw.Intn(6) > dense {
			return 0
		}
		return objects[draw.Intn(len(objects))]
	}
	for i := range p.things {
		x := &p.things[i]
		if x.kind != filler {
			x.pointers = draw.Intn(x.length + 1)
			for range x.pointers {
				x.refs = append(x.refs, ref())
			}
		}
	}
	for range draw.Intn(12) {
		p.roots = append(p.roots, ref())
	}
	return p
}

// end: what a plain collection makes of a heap and roots.
type end struct {
	words   []int
	top     int
	roots   []int
	reached []int // the addresses that they have ahead of it, rising
}

// plain: the document's words, told from the heap's words alone, without workers, regions, parts.
func plain(h *heap.Heap, roots []int) end {
	old := h.Words()
	x := end{words: slices.Clone(old), reached: reached(old, roots)}
	goes := map[int]int{}
	for _, at := range x.reached {
		goes[at+1] = x.top + 1
		x.top += 1 + old[at]/65536
	}
	clear(x.words[:h.Top()])
	for _, at := range x.reached {
		for i := range 1 + old[at]/65536 {
			word := old[at+i]
			if i >= 1 && i <= old[at]/16%4096 {
				word = goes[word]
			}
			x.words[goes[at+1]-1+i] = word
		}
	}
	for _, word := range roots {
		x.roots = append(x.roots, goes[word])
	}
	return x
}

// reached: a plain search: the addresses of all that the roots lead to, over references too, rising.
func reached(words, roots []int) []int {
	seen := map[int]int{}
	todo := slices.Clone(roots)
	var l []int
	for len(todo) > 0 {
		word := todo[len(todo)-1]
		todo = todo[:len(todo)-1]
		if word == 0 || seen[word] > 0 {
			continue
		}
		seen[word]++
		l = append(l, word-1)
		todo = append(todo, words[word:word+words[word-1]/16%4096]...)
	}
	slices.Sort(l)
	return l
}

// What is leaned on is told by hand, too: which objects of these plans are reached, and what a plain collection makes of one heap.
func TestPlain(t *testing.T) {
	for _, x := range []struct {
		p    *plan
		want []int
	}{
		{&plan{things: mixed(), roots: []int{2, 13}}, []int{2, 4, 6, 9, 13, 14}},
		{&plan{things: mixed(), roots: []int{16, 0}}, []int{9, 10, 16}},
		{&plan{things: mixed()}, nil},
		{&plan{things: row(3, 4), roots: []int{3}}, []int{3, 5}},
		{&plan{things: star(3), roots: []int{4}}, []int{1, 2, 3, 4}},
		{&plan{things: stars(2, 5), roots: []int{1}}, []int{1, 3, 5}},
	} {
		h, roots := x.p.build(t)
		var want []int
		for _, number := range x.want {
			want = append(want, x.p.starts()[number-1])
		}
		if got := plain(h, roots).reached; !slices.Equal(got, want) {
			t.Errorf("reached: %v, want %v", got, want)
		}
	}
	p := &plan{things: []thing{object(1), object(2, 4), fill(2), object(1, 4)}, roots: []int{4, 0, 2}, spare: 1}
	h, roots := p.build(t)
	words := h.Words()
	x := plain(h, roots)
	want := fmt.Sprint([]int{headOf(2, 1, 2), 4, words[4], headOf(1, 1, 1), 4, 0, 0, 0, 0, 0, words[10]})
	if fmt.Sprint(x.words) != want || x.top != 5 || fmt.Sprint(x.roots) != "[4 0 1]" {
		t.Errorf("plain: %v, %d, %v, want %s, 5, [4 0 1]", x.words, x.top, x.roots, want)
	}
}
