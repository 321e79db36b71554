package deque_test

import (
	"slices"
	"testing"

	"besom/api"
	"besom/cell"
	"besom/deque"
)

// model: the chapter's words, told plainly, apart from the program.
type model struct {
	room  int
	cells []int
	touch cell.Touch // the last one
}

// modelCall: which step is next, and what the steps ahead of it found.
type modelCall struct {
	kind             string
	who, at          int
	b, t, g, w, seen int
	done             bool
	errno            api.Errno
}

func newModel(room int) *model { return &model{room: room, cells: make([]int, 2+room)} }

func newModelCall(kind string, who, word int) *modelCall {
	return &modelCall{kind: kind, who: who, w: word, at: 1}
}

func (m *model) load(who, place int) int {
	w := m.cells[place]
	m.touch = touch(who, place, load, w, w)
	return w
}

func (m *model) store(who, place, word int) {
	m.touch = touch(who, place, store, m.cells[place], word)
	m.cells[place] = word
}

func (m *model) swap(who, place, old, word int) bool {
	was := m.cells[place]
	if was != old {
		word = was
	}
	m.touch = touch(who, place, swap, was, word)
	m.cells[place] = word
	return was == old
}

func (m *model) words() []int {
	b, t := m.cells[bottom], m.cells[top]%4096
	if t >= b {
		return nil
	}
	return m.cells[2+t : 2+b]
}

func (c *modelCall) end(word int, e api.Errno) { c.done, c.w, c.errno = true, word, e }

func (c *modelCall) loadTop(m *model) {
	c.seen = m.load(c.who, top)
	c.t, c.g = c.seen%4096, c.seen/4096
}

func (m *model) step(c *modelCall) {
	switch c.kind {
	case "push":
		m.push(c)
	case "pop":
		m.pop(c)
	default:
		m.steal(c)
	}
	c.at++
}

func (m *model) push(c *modelCall) {
	switch c.at {
	case 1:
		if c.b = m.load(0, bottom); c.b >= m.room {
			c.end(0, api.ErrFull)
		}
	case 2:
		m.store(0, 2+c.b, c.w)
	case 3:
		m.store(0, bottom, c.b+1)
		c.end(0, api.OK)
	}
}

func (m *model) pop(c *modelCall) {
	switch c.at {
	case 1:
		if c.b = m.load(0, bottom); c.b == 0 {
			c.end(0, api.ErrEmpty)
		}
	case 2:
		m.store(0, bottom, c.b-1)
	case 3:
		c.w = m.load(0, 2+c.b-1)
	case 4:
		if c.loadTop(m); c.b-1 > c.t {
			c.end(c.w, api.OK)
		}
	case 5:
		m.store(0, bottom, 0)
		if c.b-1 != c.t {
			c.at++
		}
	case 6:
		if m.swap(0, top, c.seen, topWord(0, c.g+1)) {
			c.end(c.w, api.OK)
		}
	case 7:
		m.store(0, top, topWord(0, c.g+1))
		c.end(0, api.ErrEmpty)
	}
}

func (m *model) steal(c *modelCall) {
	switch c.at {
	case 1:
		c.loadTop(m)
	case 2:
		if m.load(c.who, bottom) <= c.t {
			c.end(0, api.ErrEmpty)
		}
	case 3:
		c.w = m.load(c.who, 2+c.t)
	case 4:
		if m.swap(c.who, top, c.seen, topWord(c.t+1, c.g)) {
			c.end(c.w, api.OK)
		} else {
			c.end(0, api.ErrLost)
		}
	}
}

// worker: what it still has to begin, and the call that goes on, in the program and in the model.
type worker struct {
	who   int
	kinds []string
	word  int // that is pushed
	call  *deque.Call
	plain *modelCall
}

// race: a deque, its workers, and what was pushed and answered so far.
type race struct {
	t        *testing.T
	d        *deque.Deque
	m        *model
	workers  []*worker
	next     int // the word that is pushed next
	pushed   map[int]int
	answered map[int]int
	ends     map[string]int // how often which kind of call ended how
}

// ends are counted over many races, so that a test can tell that it has met them all.
func newRace(t *testing.T, room int, ends map[string]int) *race {
	t.Helper()
	return &race{t: t, d: newDeque(t, room), m: newModel(room), next: 100, pushed: map[int]int{}, answered: map[int]int{}, ends: ends}
}

func (r *race) add(who int, kinds ...string) {
	r.workers = append(r.workers, &worker{who: who, kinds: kinds})
}

func (r *race) begin(w *worker) {
	kind := w.kinds[0]
	w.kinds = w.kinds[1:]
	switch kind {
	case "push":
		w.word = r.next
		r.next++
		w.call = r.d.Push(w.word)
	case "pop":
		w.call = r.d.Pop()
	default:
		w.call = steal(r.t, r.d, w.who)
	}
	w.plain = newModelCall(kind, w.who, w.word)
}

// step: one worker's, held against the model.
func (r *race) step(w *worker) {
	if w.call == nil {
		r.begin(w)
	}
	r.d.Cells().Clear()
	done := w.call.Step()
	r.m.step(w.plain)
	if l := r.d.Cells().Log(); len(l) != 1 || l[0] != r.m.touch {
		r.t.Fatalf("%s of %d: touches %v, want %v", w.plain.kind, w.who, l, r.m.touch)
	}
	if done != w.plain.done || w.call.Done() != done {
		r.t.Fatalf("%s of %d: done is %t, want %t", w.plain.kind, w.who, done, w.plain.done)
	}
	if got := r.d.Words(); !slices.Equal(got, r.m.words()) {
		r.t.Fatalf("%s of %d: Words: %v, want %v", w.plain.kind, w.who, got, r.m.words())
	}
	if !done {
		wantOpen(r.t, w.plain.kind, w.call)
		return
	}
	wantResult(r.t, w.plain.kind, w.call, w.plain.w, w.plain.errno)
	r.account(w)
	w.call, w.plain = nil, nil
}

// account: what a call that is done means for what was pushed and answered, by the program's own answer (P6.2).
func (r *race) account(w *worker) {
	word, e := w.call.Result()
	r.ends[w.plain.kind+" "+[]string{api.OK: "goes", api.ErrFull: "full", api.ErrEmpty: "empty", api.ErrLost: "lost"}[e]]++
	if e != api.OK {
		return
	}
	if w.plain.kind == "push" {
		r.pushed[w.word]++
		return
	}
	r.answered[word]++
	if r.pushed[word] == 0 {
		r.t.Fatalf("%d was answered, but never pushed", word)
	}
	if r.answered[word] > 1 {
		r.t.Fatalf("%d was answered twice", word)
	}
}

// run: all calls, up to their ends; pick tells which of those that have something to do steps next.
func (r *race) run(pick func(n int) int) {
	for {
		var open []*worker
		for _, w := range r.workers {
			if w.call != nil || len(w.kinds) > 0 {
				open = append(open, w)
			}
		}
		if len(open) == 0 {
			break
		}
		r.step(open[pick(len(open))])
	}
	r.settle()
}

// settle: all calls are done: each word that was pushed stands in the deque, or was answered, and not both (P6.2).
func (r *race) settle() {
	stands := map[int]int{}
	for _, w := range r.d.Words() {
		stands[w]++
		if r.pushed[w] == 0 {
			r.t.Fatalf("%d stands there, but was never pushed", w)
		}
	}
	for w := range r.pushed {
		if n := stands[w] + r.answered[w]; n != 1 {
			r.t.Fatalf("%d was pushed: %d times there or answered", w, n)
		}
	}
	if !slices.Equal(r.d.Cells().Words(), r.m.cells) {
		r.t.Fatalf("cells: %v, want %v", r.d.Cells().Words(), r.m.cells)
	}
}
