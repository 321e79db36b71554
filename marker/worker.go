package marker

import (
	"besom/api"
	"besom/cell"
	"besom/deque"
	"besom/task"
)

// call: what goes on step by step, each step one touch: a deque's, or the spill's.
type call interface {
	Step() bool
	Result() (int, api.Errno)
}

// store: where tasks stand for others: a deque, or the spill.
type store interface {
	Cells() *cell.Cells
}

// The cells, by chapters 6 and 8, that tell whether there may be something to take.
const (
	bottomCell = 0 // of a deque
	manyCell   = 1 // of the spill
)

// worker: a machine of steps. All fields but the deque are its own, so that they aren't touched by being used.
type worker struct {
	m     *Marking
	who   int
	deque *deque.Deque
	next  func(w *worker, draw int) // its next step

	call call  // that it goes on with
	of   store // whose call that is
	then func(w *worker, word int, e api.Errno)

	// What it has in its hands.
	now      task.Task   // of no words, if it has none
	found    []task.Task // still to be handed on
	from, to int         // of the roots

	rootless bool // no part of the roots was left: that stays so
	far      int  // of others: how many workers behind this one, around
	left     int  // so many others are still to be stolen from
	seen     int  // so many were idle
}

// begin: this step is the first one of a call, and what follows comes behind its last one.
func (w *worker) begin(of store, c call, then func(w *worker, word int, e api.Errno)) {
	w.call, w.of, w.then, w.next = c, of, then, (*worker).goOn
	w.goOn(0)
}

// goOn: a call's next step.
func (w *worker) goOn(int) {
	w.m.touches++
	done := w.call.Step()
	forget(w.of)
	if done {
		word, e := w.call.Result()
		w.then(w, word, e)
	}
}

// peek: what a cell says, without a call.
func (w *worker) peek(of store, as, place int) int {
	w.m.touches++
	word, _ := of.Cells().Load(as, place)
	forget(of)
	return word
}

// turn: what it does next hangs on what it has in its hands. What was found is handed on first, so that others have something to steal.
func (w *worker) turn() {
	switch {
	case len(w.found) > 0:
		w.next = (*worker).push
	case w.from < w.to:
		w.next = (*worker).root
	case w.now.Len() > 0:
		w.next = (*worker).field
	default:
		w.next = (*worker).pop
	}
}

// hold: a task comes into its hands.
func (w *worker) hold(word int) {
	w.now, _ = task.Unpack(word)
	w.turn()
}

// others: how many workers there are beside it.
func (w *worker) others() int { return len(w.m.workers) - 1 }

// dequeAt: that of the one who stands so far behind. How far that is, is this worker's number there, where the owner's is 0: no two workers are as far from one.
func (w *worker) dequeAt(far int) *deque.Deque {
	return w.m.workers[(w.who+far)%len(w.m.workers)].deque
}

// forget: nobody asks which touches were written down, and over a long marking they are far more than all else.
func forget(of store) { of.Cells().Clear() }
