package marker

import (
	"besom/api"
	"besom/task"
)

// Steps of a worker that has something in its hands.

func (w *worker) root(int) {
	word, _ := w.m.roots.Get(w.from)
	w.from++
	w.reach(word)
}

func (w *worker) field(int) {
	word, _ := w.m.heap.Read(w.now.At, w.now.From)
	w.now.From++
	if w.now.Len() == 0 {
		w.m.work--
	}
	w.reach(word)
}

// reach: whatever a reference leads to is marked; who marks it first has its tasks.
func (w *worker) reach(word int) {
	if word != 0 && w.mark(word-1) {
		w.find(word - 1)
	}
	w.turn()
}

func (w *worker) mark(at int) bool {
	w.m.touches++
	fresh, _ := w.m.marks.Set(at)
	return fresh
}

func (w *worker) find(at int) {
	x, _ := w.m.heap.Head(at)
	if x.Pointers > 0 { // else there were a task of no words, which nobody has to look through
		w.found = task.Split(task.Task{At: at, To: x.Pointers}, w.m.chunk)
		w.m.work += len(w.found)
	}
}

func (w *worker) push(int) {
	w.begin(w.deque, w.deque.Push(w.foundWord()), (*worker).pushed)
}

func (w *worker) pushed(word int, e api.Errno) {
	if e == api.ErrFull {
		w.next = (*worker).put
		return
	}
	w.handed(word, e)
}

func (w *worker) put(int) {
	c, _ := w.m.spill.Put(w.who, w.foundWord())
	w.begin(w.m.spill, c, (*worker).handed)
}

func (w *worker) handed(int, api.Errno) {
	w.found = w.found[1:]
	w.turn()
}

func (w *worker) foundWord() int {
	word, _ := task.Pack(w.found[0])
	return word
}

// Steps of a worker with empty hands. It offers only when its own deque, the roots and the spill had nothing left, and it puts nothing there meanwhile: so that, when all have offered, nothing is anywhere.

func (w *worker) pop(int) { w.begin(w.deque, w.deque.Pop(), (*worker).popped) }

func (w *worker) popped(word int, e api.Errno) {
	switch {
	case e == api.OK:
		w.hold(word)
	case w.rootless:
		w.next = (*worker).glance
	default:
		w.next = (*worker).claim
	}
}

func (w *worker) claim(int) {
	w.m.touches++
	from, to, e := w.m.roots.Claim(w.who)
	if e != api.OK {
		w.rootless, w.next = true, (*worker).glance
		return
	}
	w.from, w.to = from, to
	w.turn()
}

// glance asks without the lock: those who look for something in vain, again and again, would keep the one waiting for ever who has something to put.
func (w *worker) glance(int) {
	w.next = (*worker).stealFirst
	if w.peek(w.m.spill, w.who, manyCell) > 0 {
		w.next = (*worker).take
	}
}

func (w *worker) take(int) {
	c, _ := w.m.spill.Take(w.who)
	w.begin(w.m.spill, c, (*worker).took)
}

func (w *worker) took(word int, e api.Errno) {
	if e != api.OK {
		w.next = (*worker).stealFirst
		return
	}
	w.hold(word)
}

func (w *worker) stealFirst(draw int) {
	others := w.others()
	if others == 0 {
		w.offer(draw)
		return
	}
	w.far, w.left = 1+(draw%others+others)%others, others
	w.steal(draw)
}

func (w *worker) steal(int) {
	d := w.dequeAt(w.far)
	c, _ := d.Steal(w.far)
	w.begin(d, c, (*worker).stole)
}

// stole: in vain or lost, it goes on to the next one, so that it comes to an end whatever others do.
func (w *worker) stole(word int, e api.Errno) {
	if e == api.OK {
		w.hold(word)
		return
	}
	w.left--
	w.far = 1 + w.far%w.others()
	w.next = (*worker).steal
	if w.left == 0 {
		w.next = (*worker).offer
	}
}

func (w *worker) offer(int) {
	w.m.touches++
	w.m.offer.Offer(w.who)
	w.next = (*worker).watch
}

// Steps of a worker that is idle. It takes nothing, and comes back only when it saw that there may be something to take: were it to come back just to look, two could keep each other from the end for ever.

// watch: the others' deques and the spill, one a step. A deque's bottom alone may still be above 0 when all was stolen, but its owner isn't idle then.
func (w *worker) watch(int) {
	w.far = (w.far + 1) % len(w.m.workers)
	many := 0
	if w.far == 0 {
		many = w.peek(w.m.spill, w.who, manyCell)
	} else {
		many = w.peek(w.dequeAt(w.far), w.far, bottomCell)
	}
	if many > 0 {
		w.next = (*worker).count
	}
}

func (w *worker) count(int) {
	w.m.touches++
	w.seen, _ = w.m.offer.Look(w.who)
	w.next = (*worker).back
}

func (w *worker) back(int) {
	w.m.touches++
	w.next = (*worker).watch
	if w.m.offer.Back(w.who, w.seen) == api.OK {
		w.next = (*worker).glance
	}
}
