package marker_test

import (
	"math/rand"
	"slices"
	"testing"

	"besom/api"
	"besom/heap"
	"besom/roots"
)

// plan: what is to stand in a heap, one behind the other, and what leads where. The numbers in refs and roots are places in heads, and 1; 0 is none.
type plan struct {
	name  string
	heads []api.Head
	refs  [][]int // of each one its first words; those that aren't told are 0
	roots []int
	spare int // words behind the top
}

// add: one more, whose first words lead there: its number.
func (p *plan) add(length, pointers int, refs ...int) int {
	p.heads = append(p.heads, api.Head{Kind: len(p.heads) % (api.MaxKind + 1), Length: length, Pointers: pointers})
	p.refs = append(p.refs, refs)
	return len(p.heads)
}

func (p *plan) fill(length int) {
	p.heads = append(p.heads, api.Head{Kind: api.Filler, Length: length})
	p.refs = append(p.refs, nil)
}

// build: the heap, and its roots, in parts of so many. Words that aren't references look like such, and lead nowhere all the same.
func (p *plan) build(t *testing.T, part int) (*heap.Heap, *roots.Roots) {
	t.Helper()
	size := p.spare
	for _, x := range p.heads {
		size += 1 + x.Length
	}
	h, e := heap.New(max(1, size))
	if e != api.OK {
		t.Fatalf("%s: heap.New(%d): %d", p.name, size, e)
	}
	refs := []int{0}
	for _, x := range p.heads {
		at, e := h.Place(x)
		if e != api.OK {
			t.Fatalf("%s: Place: %d", p.name, e)
		}
		refs = append(refs, at+1)
	}
	for i, x := range p.heads {
		if x.Kind == api.Filler {
			continue
		}
		at := refs[i+1] - 1
		for field := range x.Length {
			word := refs[1+(i+field)%len(p.heads)]
			if field < x.Pointers {
				word = 0
			}
			if field < len(p.refs[i]) {
				word = refs[p.refs[i][field]]
			}
			if e := h.Write(at, field, word); e != api.OK {
				t.Fatalf("%s: Write(%d, %d, %d): %d", p.name, at, field, word, e)
			}
		}
	}
	r := roots.New(part)
	for _, k := range p.roots {
		if e := r.Push(refs[k]); e != api.OK {
			t.Fatalf("%s: Push: %d", p.name, e)
		}
	}
	return h, r
}

// reached: a plain search: the addresses of all that are reached, rising.
func reached(h *heap.Heap, r *roots.Roots) []int {
	seen := map[int]int{}
	open := r.All()
	for len(open) > 0 {
		word := open[len(open)-1]
		open = open[:len(open)-1]
		if word == 0 || seen[word-1] > 0 {
			continue
		}
		seen[word-1]++
		x, _ := h.Head(word - 1)
		for field := range x.Pointers {
			next, _ := h.Read(word-1, field)
			open = append(open, next)
		}
	}
	var l []int
	for at := range h.Walk() {
		if seen[at] > 0 {
			l = append(l, at)
		}
	}
	return l
}

// row: each leads to the next one, the first one is a root; beside them one that isn't reached.
func row(n int) *plan {
	p := &plan{name: "row"}
	for i := range n {
		next := i + 2
		if i == n-1 {
			next = 0
		}
		p.add(2, 1, next)
	}
	p.add(1, 1, 1)
	p.roots = []int{1}
	return p
}

// ring: each leads to the one ahead of it, the first one to the last one; a root in the middle.
func ring(n int) *plan {
	p := &plan{name: "ring"}
	for i := range n {
		p.add(3, 2, 0, 1+(i+n-1)%n)
	}
	p.roots = []int{0, 1 + n/2}
	return p
}

// tree: each leads to two more, as long as there are some.
func tree(n int) *plan {
	p := &plan{name: "tree"}
	for i := range n {
		var refs []int
		for k := 2*i + 2; k <= min(2*i+3, n); k++ {
			refs = append(refs, k)
		}
		p.add(len(refs)+1, len(refs), refs...)
	}
	p.roots = []int{1}
	return p
}

// star: one with so many references, each to another one, without words; the last few to itself, and to the first one.
func star(n int) *plan {
	p := &plan{name: "star"}
	refs := []int{}
	for i := range n {
		refs = append(refs, min(i+2, max(2, n-3)))
	}
	refs[n-1] = 1
	p.add(n, n, refs...)
	for range n {
		p.add(0, 0)
	}
	p.roots = []int{1}
	return p
}

// stars: some with so many references, which lead to one another, and all to one more.
func stars(many, n int) *plan {
	p := &plan{name: "stars"}
	for i := range many {
		refs := make([]int, n)
		for k := range refs {
			refs[k] = many + 1
			if k%5 == 0 {
				refs[k] = 1 + (i+k)%many
			}
		}
		p.add(n, n, refs...)
	}
	p.add(3, 0)
	p.roots = []int{1}
	return p
}

// selves: each leads to itself alone, in all its words; every other one is a root, twice.
func selves(n int) *plan {
	p := &plan{name: "selves"}
	for i := range n {
		me := len(p.heads) + 1
		p.add(3, 3, me, me, me)
		if i%2 == 0 {
			p.roots = append(p.roots, me, me)
		}
	}
	return p
}

// fillers: between all others; the words of those are references to what isn't reached.
func fillers(n int) *plan {
	p := &plan{name: "fillers", spare: 9}
	for i := range n {
		p.fill(i % 4)
		next := 2*i + 4
		if i == n-1 {
			next = 0
		}
		p.add(2, 1, next)
	}
	p.fill(5)
	p.roots = []int{2, 0, 2*n - 2, 0}
	return p
}

// unreached: all lead to others, and no root to any of them.
func unreached(n int) *plan {
	p := ring(n)
	p.name, p.roots = "nothing reached", []int{0, 0, 0}
	return p
}

// rooted: each is a root, and leads nowhere.
func rooted(n int) *plan {
	p := &plan{name: "all rooted"}
	for range n {
		p.roots = append(p.roots, p.add(1, 1))
	}
	return p
}

// none: no objects.
func none(roots int) *plan {
	return &plan{name: "no objects", roots: make([]int, roots), spare: roots % 3}
}

// drawn: objects and fillers, references and roots by draws.
func drawn(draw *rand.Rand, n int) *plan {
	p := &plan{name: "drawn", spare: draw.Intn(3)}
	var objects []int
	for range n {
		if draw.Intn(5) == 0 {
			p.fill(draw.Intn(6))
			continue
		}
		length := draw.Intn(7)
		objects = append(objects, p.add(length, draw.Intn(length+1)))
	}
	if len(objects) == 0 {
		objects = []int{p.add(0, 0)}
	}
	dense := 1 + draw.Intn(5)
	for _, k := range objects {
		for range p.heads[k-1].Pointers {
			to := 0
			if draw.Intn(6) < dense {
				to = objects[draw.Intn(len(objects))]
			}
			p.refs[k-1] = append(p.refs[k-1], to)
		}
	}
	for range draw.Intn(8) {
		p.roots = append(p.roots, []int{0, objects[draw.Intn(len(objects))]}[min(1, draw.Intn(5))])
	}
	return p
}

// plans: of each kind some, none of them great.
func plans() []*plan {
	draw := rand.New(rand.NewSource(11))
	l := []*plan{none(0), none(1), none(70), row(1), row(2), row(40), ring(1), ring(30), tree(1), tree(60), star(5), star(90), stars(4, 12), selves(25), fillers(20), unreached(20), rooted(100)}
	for i := range 12 {
		l = append(l, drawn(draw, 1+i*i))
	}
	return l
}

// P11.3 needs a search that can be leaned on: that one finds what these plans are made to reach.
func TestReached(t *testing.T) {
	for _, x := range []struct {
		p    *plan
		want []int
	}{
		{none(3), nil},
		{row(3), []int{0, 3, 6}},
		{ring(4), []int{0, 4, 8, 12}},
		{tree(3), []int{0, 4, 6}},
		{star(5), []int{0, 6}},
		{selves(4), []int{0, 8}},
		{fillers(3), []int{1, 6, 12}},
		{unreached(5), nil},
		{rooted(3), []int{0, 2, 4}},
	} {
		h, r := x.p.build(t, 1)
		if l := reached(h, r); !slices.Equal(l, x.want) {
			t.Errorf("%s: %v, want %v", x.p.name, l, x.want)
		}
	}
}
