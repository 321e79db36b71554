package spill_test

import (
	"slices"
	"testing"

	"besom/api"
	"besom/cell"
	"besom/spill"
)

// model: the chapter's words, told plainly, apart from the program.
type model struct {
	room  int
	cells []int
	touch cell.Touch // the last one
}

// modelCall: which step is next, and what the steps ahead of it found.
type modelCall struct {
	kind          string
	who, at, n, w int
	done          bool
	errno         api.Errno
}

func newModel(room int) *model { return &model{room: room, cells: make([]int, 2+room)} }

func (m *model) load(who, place int) int {
	w := m.cells[place]
	m.touch = touch(who, place, load, w, w)
	return w
}

func (m *model) store(who, place, word int) {
	m.touch = touch(who, place, store, m.cells[place], word)
	m.cells[place] = word
}

// end: the lock is given back, and the call is done.
func (m *model) end(c *modelCall, word int, e api.Errno) {
	m.store(c.who, lock, 0)
	c.done, c.w, c.errno = true, word, e
}

func (m *model) step(c *modelCall) {
	if c.at == 1 {
		if was := m.cells[lock]; was != 0 {
			m.touch = touch(c.who, lock, swap, was, was)
			return
		}
		m.cells[lock] = c.who + 1
		m.touch = touch(c.who, lock, swap, 0, c.who+1)
	} else if c.kind == "put" {
		m.put(c)
	} else {
		m.take(c)
	}
	c.at++
}

func (m *model) put(c *modelCall) {
	switch c.at {
	case 2:
		c.n = m.load(c.who, many)
	case 3:
		if c.n < m.room {
			m.store(c.who, 2+c.n, c.w)
		} else {
			m.end(c, 0, api.ErrFull)
		}
	case 4:
		m.store(c.who, many, c.n+1)
	case 5:
		m.end(c, 0, api.OK)
	}
}

func (m *model) take(c *modelCall) {
	switch c.at {
	case 2:
		c.n = m.load(c.who, many)
	case 3:
		if c.n > 0 {
			c.w = m.load(c.who, 2+c.n-1)
		} else {
			m.end(c, 0, api.ErrEmpty)
		}
	case 4:
		m.store(c.who, many, c.n-1)
	case 5:
		m.end(c, c.w, api.OK)
	}
}

// worker: what it still has to begin, and the call that goes on, in the program and in the model.
type worker struct {
	who   int
	kinds []string
	word  int // that is put
	vain  int // how often its first step was tried in vain since the lock was taken
	call  *spill.Call
	plain *modelCall
}

// open: has it something to do?
func (w *worker) open() bool { return w.call != nil || len(w.kinds) > 0 }

// race: a spill, its workers, and what was put and taken so far.
type race struct {
	t       *testing.T
	s       *spill.Spill
	m       *model
	workers []*worker
	next    int // the word that is put next
	put     map[int]int
	taken   map[int]int
	row     []int          // a plain row, put and taken at its end as calls end
	ends    map[string]int // how often which kind of call ended how, and how many steps were tried in vain
}

// ends are counted over many races, so that a test can tell that it has met them all.
func newRace(t *testing.T, room int, ends map[string]int) *race {
	t.Helper()
	return &race{t: t, s: newSpill(t, room), m: newModel(room), next: 100, put: map[int]int{}, taken: map[int]int{}, ends: ends}
}

func (r *race) add(who int, kinds ...string) {
	r.workers = append(r.workers, &worker{who: who, kinds: kinds})
}

func (r *race) begin(w *worker) {
	kind := w.kinds[0]
	w.kinds = w.kinds[1:]
	if kind == "put" {
		w.word = r.next
		r.next++
		w.call = put(r.t, r.s, w.who, w.word)
	} else {
		w.call = take(r.t, r.s, w.who)
	}
	w.plain = &modelCall{kind: kind, who: w.who, w: w.word, at: 1}
}

// step: one worker's, held against the model.
func (r *race) step(w *worker) {
	if w.call == nil {
		r.begin(w)
	}
	r.s.Cells().Clear()
	done := w.call.Step()
	r.m.step(w.plain)
	if l := r.s.Cells().Log(); len(l) != 1 || l[0] != r.m.touch {
		r.t.Fatalf("%s of %d: touches %v, want %v", w.plain.kind, w.who, l, r.m.touch)
	}
	if done != w.plain.done || w.call.Done() != done {
		r.t.Fatalf("%s of %d: done is %t, want %t", w.plain.kind, w.who, done, w.plain.done)
	}
	if got, want := r.s.Words(), r.m.cells[2:2+r.m.cells[many]]; !slices.Equal(got, want) {
		r.t.Fatalf("%s of %d: Words: %v, want %v", w.plain.kind, w.who, got, want)
	}
	if !done {
		wantOpen(r.t, w.plain.kind, w.call)
		if w.plain.at == 1 {
			r.ends["in vain"]++
			w.vain++
		}
		return
	}
	wantResult(r.t, w.plain.kind, w.call, w.plain.w, w.plain.errno)
	r.account(w)
	w.call, w.plain = nil, nil
	for _, other := range r.workers {
		other.vain = 0
	}
}

// account: what a call that is done means for what was put and taken, by the program's own answer (P8.2), and by a plain row.
func (r *race) account(w *worker) {
	word, e := w.call.Result()
	kind := w.plain.kind
	r.ends[kind+" "+[]string{api.OK: "goes", api.ErrFull: "full", api.ErrEmpty: "empty"}[e]]++
	switch {
	case kind == "put" && (e == api.ErrFull) != (len(r.row) == r.m.room), kind == "take" && (e == api.ErrEmpty) != (len(r.row) == 0):
		r.t.Fatalf("%s of %d: %d, with %d words of %d", kind, w.who, e, len(r.row), r.m.room)
	case e != api.OK:
	case kind == "put":
		r.put[w.word]++
		r.row = append(r.row, w.word)
	default:
		r.accountTaken(word)
	}
	if !slices.Equal(r.s.Words(), r.row) {
		r.t.Fatalf("%s of %d: Words: %v, want %v", kind, w.who, r.s.Words(), r.row)
	}
}

func (r *race) accountTaken(word int) {
	if r.put[word] == 0 {
		r.t.Fatalf("%d was taken, but never put", word)
	}
	if r.taken[word]++; r.taken[word] > 1 {
		r.t.Fatalf("%d was taken twice", word)
	}
	if last := r.row[len(r.row)-1]; word != last {
		r.t.Fatalf("%d was taken, but %d was put last", word, last)
	}
	r.row = r.row[:len(r.row)-1]
}

// run: all calls, up to their ends; pick tells which of those that have something to do steps next. Who has tried in vain as often as it may waits for another one's end.
func (r *race) run(vain int, pick func(n int) int) {
	for {
		var open []*worker
		for _, w := range r.workers {
			if w.open() && w.vain < vain {
				open = append(open, w)
			}
		}
		if len(open) == 0 {
			break
		}
		r.step(open[pick(len(open))])
	}
	r.settle()
}

// rounds: each worker that has something to do steps once a round, in an order that is told anew each time; how many rounds it takes until all are done, or most, if they aren't then.
func (r *race) rounds(most int, order func([]*worker)) int {
	turn := slices.Clone(r.workers)
	for n := range most {
		if !slices.ContainsFunc(turn, (*worker).open) {
			return n
		}
		order(turn)
		for _, w := range turn {
			if w.open() {
				r.step(w)
			}
		}
	}
	return most
}

// settle: all calls are done: each word that was put stands in the spill, or was taken, and not both (P8.2); the lock is free.
func (r *race) settle() {
	r.t.Helper()
	for _, w := range r.workers {
		if w.open() {
			r.t.Fatalf("a call of %d doesn't end", w.who)
		}
	}
	stands := map[int]int{}
	for _, w := range r.s.Words() {
		stands[w]++
		if r.put[w] == 0 {
			r.t.Fatalf("%d stands there, but was never put", w)
		}
	}
	for w := range r.put {
		if n := stands[w] + r.taken[w]; n != 1 {
			r.t.Fatalf("%d was put: %d times there or taken", w, n)
		}
	}
	if got := r.s.Cells().Words(); got[lock] != 0 || !slices.Equal(got, r.m.cells) {
		r.t.Fatalf("cells: %v, want %v", got, r.m.cells)
	}
}
