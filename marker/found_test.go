package marker_test

import (
	"math/rand"
	"slices"
	"testing"

	"besom/api"
	"besom/heap"
	"besom/marker"
	"besom/roots"
)

// P11.2, P11.3: many graphs, by all schedules, with few and many workers, small and great rooms and chunks, and all kinds of draws: at each step what is marked is reached, and at the end all of it is.
func TestFound(t *testing.T) {
	some := []numbers{{1, 2, 1, 1}, {1, 1024, 4095, 64}, {2, 2, 1, 1}, {2, 3, 2, 3}, {3, 2, 3, 2}, {5, 4, 1, 64}, {17, 2, 1, 1}, {64, 2, 1, 1}, {64, 16, 7, 5}}
	for i, p := range plans() {
		for k, n := range some {
			draw := rand.New(rand.NewSource(int64(100*i + k)))
			kinds := drawKinds(draw)
			for j, s := range schedules(draw) {
				newRun(t, p, n).play(s, kinds[(i+k+j)%len(kinds)])
			}
		}
	}
}

// P11.2, P11.3: many small graphs that are drawn, with numbers that are drawn too.
func TestFoundDrawn(t *testing.T) {
	found, most := 0, 0
	for seed := range 1500 {
		draw := rand.New(rand.NewSource(int64(seed)))
		p := drawn(draw, 1+draw.Intn(30))
		n := numbers{1 + draw.Intn(6), 2 + draw.Intn(3), 1 + draw.Intn(4), 1 + draw.Intn(3)}
		all, kinds := schedules(draw), drawKinds(draw)
		x := newRun(t, p, n)
		x.play(all[draw.Intn(len(all))], kinds[draw.Intn(len(kinds))])
		found += x.marked
		most = max(most, x.marked)
	}
	if found < 5000 || most < 20 {
		t.Errorf("only %d were found in all, %d at most", found, most)
	}
}

// P11.3: one object with as many references as may be, in chunks of one, and deques that are full at once: nearly all stands in the spill meanwhile.
func TestFoundWide(t *testing.T) {
	for _, n := range []numbers{{1, 2, 1, 1}, {2, 2, 1, 1}, {7, 2, 1, 1}, {64, 2, 1, 1}, {64, 1024, 4095, 1}, {3, 1024, 1, 1}, {4, 3, 4094, 1}} {
		draw := rand.New(rand.NewSource(int64(n.workers)))
		newRun(t, star(api.MaxLength), n).finish(inTurn(n.workers), draw.Int)
	}
}

// quick: a marking of a great heap, all in turn, looked at behind the end alone.
func quick(t *testing.T, p *plan, n numbers) {
	t.Helper()
	h, r := p.build(t, n.part)
	if h.Size() != api.MaxWords || h.Top() != h.Size() {
		t.Fatalf("%s: %d words of %d", p.name, h.Top(), h.Size())
	}
	m, e := marker.New(h, r, n.workers, n.room, n.chunk)
	if e != api.OK {
		t.Fatalf("%s, %s: New: %d", p.name, n, e)
	}
	most := n.workers * (400 + 20*n.workers) * (api.MaxWords + r.Len() + 10)
	for i := 0; !m.Over(); i++ {
		if e := m.Step(i%n.workers, i); e != api.OK || i > most {
			t.Fatalf("%s, %s: step %d: %d", p.name, n, i, e)
		}
	}
	if got, want := slices.Collect(m.Marks().All()), reached(h, r); !slices.Equal(got, want) || m.Work() != 0 {
		t.Errorf("%s, %s: %d marked, want %d, work %d", p.name, n, len(got), len(want), m.Work())
	}
}

// P11.3: as many references as a heap can have, in chunks of one and with deques that are full at once: whatever stands in the spill, nothing is lost.
func TestFoundFull(t *testing.T) {
	p := stars(15, api.MaxLength)
	p.add(4091, 4091, 1)
	p.refs[0][4001] = len(p.heads)
	for _, n := range []numbers{{1, 2, 1, 1}, {4, 2, 1, 1}, {64, 2, 1, 1}, {64, 1024, 4095, 1}} {
		quick(t, p, n)
	}
}

// P11.3: a row as long as a heap can have, where one task is there at a time, and many look for it.
func TestFoundLong(t *testing.T) {
	p := &plan{name: "long row", roots: []int{1}}
	for i := range api.MaxWords / 2 {
		p.add(1, 1, (i+2)%(1+api.MaxWords/2))
	}
	for _, n := range []numbers{{1, 2, 1, 1}, {8, 2, 1, 1}, {64, 1024, 3, 1}} {
		quick(t, p, n)
	}
}

// P11.3: as many roots as may be, in parts of all sizes, some of them twice, some none.
func TestFoundByRoots(t *testing.T) {
	for part := 1; part <= 64; part += 9 {
		for _, workers := range []int{1, 3, 64} {
			p := rooted(600)
			for i := range api.MaxRoots - 600 {
				p.roots = append(p.roots, i%2*(i+1))
			}
			draw := rand.New(rand.NewSource(int64(part)))
			x := newRun(t, p, numbers{workers, 2, 1, part})
			x.play(schedules(draw)[part%7], draw.Int)
			if x.marked != 600 {
				t.Fatalf("%s: %d marked", x.name, x.marked)
			}
		}
	}
}

// P11.3: each root in its turn is the only one that leads somewhere: none is left out, whoever claims it.
func TestEachRoot(t *testing.T) {
	for many := 1; many <= 9; many++ {
		for at := range many {
			for part := 1; part <= 4; part++ {
				p := &plan{name: "one root", roots: make([]int, many)}
				leaf := p.add(1, 1)
				p.roots[at] = p.add(1, 1, leaf)
				for _, workers := range []int{1, 2, 5} {
					x := newRun(t, p, numbers{workers, 2, 1, part})
					x.finish(inTurn(workers), func() int { return at })
				}
			}
		}
	}
}

// P11.3: each word of an object in its turn is the only one that leads somewhere, in chunks of all sizes.
func TestEachWord(t *testing.T) {
	for many := 1; many <= 9; many++ {
		for at := range many {
			for chunk := 1; chunk <= many+1; chunk++ {
				p := &plan{name: "one word", roots: []int{1}}
				refs := make([]int, many)
				refs[at] = 2
				p.add(many+1, many, refs...)
				p.add(1, 0)
				p.add(1, 0)
				x := newRun(t, p, numbers{1 + at%3, 2, chunk, 1})
				x.finish(inTurn(x.workers), func() int { return chunk })
				if x.marked != 2 {
					t.Fatalf("%s: word %d of %d: %d marked", x.name, at, many, x.marked)
				}
			}
		}
	}
}

// everyOrder: runs something as often as there are rows of picks, each time with another one.
func everyOrder(run func(pick func(n int) int)) int {
	var path, wide []int
	for runs := 1; ; runs++ {
		at := 0
		run(func(n int) int {
			if at == len(path) {
				path, wide = append(path, 0), append(wide, n)
			}
			at++
			return path[at-1]
		})
		for len(path) > 0 && path[len(path)-1] == wide[len(path)-1]-1 {
			path, wide = path[:len(path)-1], wide[:len(path)-1]
		}
		if len(path) == 0 {
			return runs
		}
		path[len(path)-1]++
	}
}

// P11.2, P11.3: each order of so many steps of two workers, from several beginnings on, and then all in turn.
func TestEveryOrder(t *testing.T) {
	for _, x := range []struct {
		p     *plan
		ahead int
		n     numbers
	}{
		{row(3), 0, numbers{2, 2, 1, 1}},
		{row(3), 9, numbers{2, 2, 1, 1}},
		{star(6), 11, numbers{2, 2, 1, 1}},
		{star(6), 30, numbers{2, 2, 1, 1}},
		{tree(6), 25, numbers{2, 2, 2, 1}},
		{rooted(2), 3, numbers{2, 2, 1, 1}},
	} {
		runs := everyOrder(func(pick func(n int) int) {
			r := newRun(t, x.p, x.n)
			for range x.ahead {
				r.step(0, 1)
			}
			for range 12 {
				if !r.m.Over() {
					r.step(pick(2), 0)
				}
			}
			r.finish(inTurn(2), func() int { return 1 })
		})
		if runs < 1<<11 {
			t.Errorf("%s: only %d orders", x.p.name, runs)
		}
	}
}

// work: what must still be looked through, by what was marked.
type work struct {
	x       *run
	pending map[int]int // by worker what its last step marked
	settled []int
}

// open: does one lead to what isn't marked? Who marked it has stepped since, and must have a task of it.
func (w *work) open() bool {
	for _, at := range w.settled {
		head, _ := w.x.h.Head(at)
		for field := range head.Pointers {
			if word, _ := w.x.h.Read(at, field); word != 0 && !w.x.marks.Has(word-1) {
				return true
			}
		}
	}
	return false
}

func (w *work) step(who, draw int) {
	if at, ok := w.pending[who]; ok {
		w.settled = append(w.settled, at)
		delete(w.pending, who)
	}
	if at := w.x.step(who, draw); at >= 0 {
		w.pending[who] = at
	}
	if w.x.m.Work() == 0 && w.open() {
		w.x.t.Fatalf("%s: step %d: no work, though what is marked leads to what isn't", w.x.name, w.x.steps)
	}
}

// P11.1: Work tells of a task wherever it is: in a worker's hands, in a deque, in the spill, and on its way from one to another.
func TestWork(t *testing.T) {
	for i, p := range []*plan{row(6), ring(9), tree(15), star(12), stars(3, 4), fillers(6), selves(4)} {
		for k, n := range []numbers{{1, 2, 1, 1}, {1, 2, 2, 1}, {1, 1024, 4095, 1}, {2, 2, 1, 1}, {3, 2, 2, 1}, {4, 3, 1, 1}} {
			for seed := range 6 {
				draw := rand.New(rand.NewSource(int64(100*i + 10*k + seed)))
				w := &work{x: newRun(t, p, n), pending: map[int]int{}}
				for who := 0; !w.x.m.Over() && w.x.steps < 20000; {
					if seed == 0 || draw.Intn(10) < seed {
						who = draw.Intn(n.workers)
					}
					w.step(who, draw.Int())
				}
				w.x.finish(inTurn(n.workers), draw.Int)
				if w.x.peak == 0 {
					t.Errorf("%s: there never was any work", w.x.name)
				}
			}
		}
	}
}

// P11.3: others have something to steal: from one root on, where there is much to be found, and all step in turn, several find it.
func TestSeveralFind(t *testing.T) {
	for _, p := range []*plan{star(200), tree(200), stars(10, 20)} {
		for _, n := range []numbers{{2, 1024, 1, 1}, {2, 2, 1, 1}, {5, 16, 2, 1}, {64, 1024, 1, 1}} {
			x := newRun(t, p, n)
			finders := map[int]int{}
			for i := 0; !x.m.Over(); i++ {
				if who := i % n.workers; x.step(who, i) >= 0 {
					finders[who]++
				}
			}
			x.wantFound()
			if len(finders) < 2 {
				t.Errorf("%s: found by %v alone", x.name, finders)
			}
		}
	}
}

// P11.3: a heap can be marked again, and with others' roots; each marking has its own marks.
func TestAgain(t *testing.T) {
	h, r := tree(30).build(t, 2)
	n := numbers{3, 2, 1, 2}
	one := runOf(t, "first", h, r, n)
	one.finish(inTurn(3), func() int { return 0 })
	two := runOf(t, "again", h, r, n)
	if two.marks == one.marks {
		t.Fatal("two markings have one map")
	}
	two.finish(inTurn(3), func() int { return 5 })
	other := roots.New(1)
	other.Push(r.All()[0])
	other.Push(0)
	runOf(t, "others' roots", h, other, n).finish(inTurn(3), func() int { return -7 })
	one.wantFound()
	two.wantFound()
}

// P11.1: the roots are opened by New, whatever was claimed of them ahead of it.
func TestRootsAreOpened(t *testing.T) {
	for claims := range 12 {
		h, r := rooted(9).build(t, 2)
		for k := range claims {
			r.Claim(k)
		}
		x := runOf(t, "claimed ahead", h, r, numbers{2, 2, 1, 2})
		x.finish(inTurn(2), func() int { return claims })
		if x.marked != 9 {
			t.Fatalf("%d claims ahead: %d marked", claims, x.marked)
		}
	}
}

// P11.2: words that are no references, though they look like such, lead nowhere: neither an object's words behind its Pointers first ones, nor a filler's, nor such as stand behind the top.
func TestLookalikes(t *testing.T) {
	words := []int{
		1 + 16*1 + 65536*3, 7, 5, 9, // an object at 0 that leads to 6; 5 and 9 look like references to 4 and 8
		1 + 65536*1, 7,
		2 + 65536*1, 5, // at 6, reached
		15 + 65536*3, 1, 5, 13, // a filler at 8
		3 + 16*1 + 65536*1, 5, // at 12: leads to 4, and isn't reached
		1 + 16, 5, // behind the top
	}
	h, e := heap.Of(words, 14)
	if e != api.OK {
		t.Fatalf("Of: %d", e)
	}
	r := roots.New(1)
	r.Push(1)
	for workers := 1; workers <= 3; workers++ {
		x := runOf(t, "lookalikes", h, r, numbers{workers, 2, 1, 1})
		x.finish(inTurn(workers), func() int { return 0 })
		if l := slices.Collect(x.m.Marks().All()); !slices.Equal(l, []int{0, 6}) {
			t.Errorf("%d workers: %v", workers, l)
		}
	}
}
