package slider_test

import (
	"math"
	"math/rand"
	"testing"

	"besom/api"
	"besom/heap"
	"besom/marks"
)

// thing: what stands in a heap, an object or a filler. The numbers in refs are places among the things, and 1; 0 is none; those that aren't told are 0.
type thing struct {
	kind, length, pointers int
	refs                   []int
	marked                 bool
}

// plan: things, one behind the other, and so many words behind the top.
type plan struct {
	name   string
	things []thing
	spare  int
	inside bool // are the places of all words that aren't heads marked, too?
}

// dead, live: objects of so many words, that don't stay, or do, and lead there by their first words.
func dead(length int, refs ...int) thing {
	return thing{kind: 3, length: length, pointers: len(refs), refs: refs}
}
func live(length int, refs ...int) thing {
	return thing{kind: 5, length: length, pointers: len(refs), refs: refs, marked: true}
}

// fill: a filler; marked, too, as it doesn't stay all the same.
func fill(length int) thing { return thing{kind: filler, length: length, marked: true} }

// many: the same things so many times; what they lead to is the same then.
func many(times int, l ...thing) []thing {
	var all []thing
	for range times {
		all = append(all, l...)
	}
	return all
}

// starts: where each thing begins, and the top.
func (p *plan) starts() []int {
	l := []int{0}
	for i, x := range p.things {
		l = append(l, l[i]+1+x.length)
	}
	return l
}

// build: the heap and its marks. Words that are no references look like such, or like heads.
func (p *plan) build(t *testing.T) (*heap.Heap, *marks.Map) {
	t.Helper()
	starts := p.starts()
	top := starts[len(p.things)]
	words := make([]int, max(1, top+p.spare))
	for i := range words {
		words[i] = []int{starts[i%len(starts)] + 1, 3 + 65536, 15, 1, i + 1}[i%5]
	}
	m, e := marks.New(len(words))
	if e != api.OK {
		t.Fatalf("%s: marks.New(%d): %d", p.name, len(words), e)
	}
	for i, x := range p.things {
		at := starts[i]
		words[at] = x.kind + 16*x.pointers + 65536*x.length
		for field := range x.pointers {
			words[at+1+field] = 0
			if field < len(x.refs) && x.refs[field] > 0 {
				words[at+1+field] = starts[x.refs[field]-1] + 1
			}
		}
		if x.marked {
			m.Set(at)
		}
		for place := at + 1; p.inside && place <= at+x.length; place++ {
			m.Set(place)
		}
	}
	for place := top; p.inside && place < len(words); place++ {
		m.Set(place)
	}
	h, e := heap.Of(words, top)
	if e != api.OK {
		t.Fatalf("%s: heap.Of: %d", p.name, e)
	}
	return h, m
}

// numbered: each object that stays leads to itself, to the next one that does, and to the last one, as far as it has words for that; the others lead to all kinds.
func numbered(l []thing) []thing {
	var stay []int
	for i, x := range l {
		if x.marked && x.kind != filler {
			stay = append(stay, i+1)
		}
	}
	next := 0
	for i := range l {
		x := &l[i]
		switch {
		case x.kind == filler:
		case x.marked:
			next++
			x.refs = []int{i + 1, stay[next%len(stay)], stay[len(stay)-1], 0, stay[0]}
			x.pointers = min(len(x.refs), x.length)
		default:
			x.refs = []int{1 + (i*7)%len(l), i + 1}
			x.pointers = min(len(x.refs), x.length)
		}
	}
	return l
}

// marking: the same objects, of which those with such numbers among all things stay.
func marking(l []thing, stays func(i int) bool) []thing {
	var all []thing
	for i, x := range l {
		if x.kind != filler {
			x.marked = stays(i)
		}
		all = append(all, x)
	}
	return numbered(all)
}

// mixed: objects and fillers of several lengths.
func mixed() []thing {
	return []thing{dead(2), live(0), fill(1), live(4), dead(1), live(0), fill(2), live(3), dead(0), live(5), fill(0), live(1)}
}

// plans: heaps of all kinds.
func plans() []*plan {
	none := func(int) bool { return false }
	all := func(int) bool { return true }
	only := func(n int) func(int) bool { return func(i int) bool { return i == n } }
	from := func(n int) func(int) bool { return func(i int) bool { return i >= n } }
	return []*plan{
		{name: "mixed", things: numbered(mixed()), spare: 3},
		{name: "mixed, insides marked", things: numbered(mixed()), spare: 3, inside: true},
		{name: "nothing marked", things: marking(mixed(), none), spare: 1},
		{name: "all marked", things: marking(mixed(), all)},
		{name: "the first one", things: marking(mixed(), only(0)), spare: 2},
		{name: "the last one", things: marking(mixed(), only(11)), spare: 2},
		{name: "all but the first one", things: marking(mixed(), from(1))},
		{name: "the later ones", things: marking(mixed(), from(5)), spare: 1},
		{name: "nothing to be done", things: numbered(many(8, live(2), live(0), live(3))), spare: 2},
		{name: "no words", things: numbered(append(many(1, dead(0)), many(20, live(0))...))},
		{name: "no words, some of them", things: numbered(many(9, live(0), dead(0), live(0), fill(0)))},
		{name: "no words, three behind", things: numbered(append(many(3, dead(0)), many(30, live(0))...))},
		{name: "two words", things: numbered(append(many(1, dead(0)), many(15, live(1))...)), spare: 1},
		{name: "two words, far behind", things: numbered(append(many(1, fill(16)), many(16, live(1))...))},
		{name: "over several regions", things: numbered([]thing{dead(0), live(9), live(0), live(0), live(0), live(12), dead(3), live(7), live(1)}), spare: 1},
		{name: "over regions that stay where they are", things: numbered([]thing{live(7), live(0), live(11), dead(0), live(6)})},
		{name: "one stands where many go", things: numbered(append([]thing{dead(14), live(14)}, many(7, live(0), dead(0), live(0))...))},
		{name: "many stand where one goes", things: numbered(append(append(many(1, dead(8)), many(8, live(0))...), live(15), live(0)))},
		{name: "fillers alone", things: many(5, fill(0), fill(3)), spare: 1},
		{name: "one word", things: many(1, live(0))},
		{name: "one word, dead", things: many(1, dead(0))},
		{name: "one word, a filler", things: many(1, fill(0)), spare: 3},
		{name: "two of no words", things: []thing{dead(0), live(0)}},
		{name: "empty", spare: 5},
		{name: "empty, insides marked", spare: 5, inside: true},
	}
}

// sizes: of regions, of all kinds.
var sizes = []int{math.MinInt, -1, 0, 1, 2, 3, 4, 5, 7, 8, 16, 33, 64, 4096, most - 1, most, most + 1, 1 << 32, math.MaxInt}

// drawn: a plan of about so many words, in which of the objects about so many of ten stay, and which has objects of so many words at most.
func drawn(draw *rand.Rand, words, stays, longest int) *plan {
	p := &plan{name: "drawn", spare: draw.Intn(4), inside: draw.Intn(2) == 0}
	for n := 0; n < words; {
		x := thing{kind: draw.Intn(filler + 1), length: draw.Intn(1 + draw.Intn(1+longest)), marked: draw.Intn(10) < stays}
		if draw.Intn(4) == 0 {
			x.kind = filler
		}
		p.things = append(p.things, x)
		n += 1 + x.length
	}
	var stay []int
	for i, x := range p.things {
		if x.marked && x.kind != filler {
			stay = append(stay, i+1)
		}
	}
	for i := range p.things {
		x := &p.things[i]
		if x.kind == filler {
			continue
		}
		x.pointers = draw.Intn(x.length + 1)
		for range x.pointers {
			ref := 1 + draw.Intn(len(p.things))
			if x.marked {
				ref = append(stay, 0)[draw.Intn(len(stay)+1)]
			}
			x.refs = append(x.refs, ref)
		}
	}
	return p
}
