package slider

import (
	"besom/api"
	"besom/cell"
	"besom/heap"
)

// worker: a machine of steps. All fields but the sliding are its own, so that they aren't touched by being used.
type worker struct {
	s    *Sliding
	who  int
	next func(w *worker) // its next step

	// Of the region that it claimed.
	region     int
	stays      []int // still to be moved
	from, upTo int   // still to be noughts

	// Of the object that it moves.
	at, to   int
	head     api.Head
	many     int   // so many of its words are where they go
	word     int   // the next one of them
	awaiting []int // regions that are still to be told that it was moved
}

// claim: the next region is its own. Once none is left, none will be again.
func (w *worker) claim() {
	w.region = w.add(w.s.signs, claimCell, 1)
	if w.region >= w.s.Len() {
		w.next = (*worker).rest
		return
	}
	w.stays = w.s.Stays(w.region)
	w.from, w.upTo = max(w.s.begins[w.region], w.s.Top()), w.s.begins[w.region+1]
	if len(w.stays) > 0 {
		w.next = (*worker).await
		return
	}
	w.turn()
}

// await: what stands where its region's objects go was moved, or it looks again.
func (w *worker) await() {
	if w.load(w.s.signs, awaitCell+w.region) == 0 {
		w.turn()
	}
}

// turn: what it does next, as soon as no object is in its hands.
func (w *worker) turn() {
	switch {
	case len(w.awaiting) > 0:
		w.next = (*worker).tell
	case len(w.stays) > 0:
		w.at, w.many, w.stays = w.stays[0], 0, w.stays[1:]
		w.to, _ = w.s.To(w.at)
		w.next = (*worker).take
	case w.from < w.upTo:
		w.next = (*worker).nought
	default:
		w.next = (*worker).claim
	}
}

// take: the object's next word, as it becomes.
func (w *worker) take() {
	w.word = w.load(w.s.words, w.at+w.many)
	switch {
	case w.many == 0:
		w.head, _ = heap.Unpack(w.word)
	case w.many <= w.head.Pointers:
		w.word, _ = w.s.Word(w.word)
	}
	w.next = (*worker).put
}

// put: that word is where it goes.
func (w *worker) put() {
	w.store(w.to+w.many, w.word)
	w.many++
	if w.many <= w.head.Length {
		w.next = (*worker).take
		return
	}
	w.s.moved++
	w.awaiting = w.s.awaiting(w.at, w.head)
	w.turn()
}

// tell: a region that an object stood in the way of learns that it was moved.
func (w *worker) tell() {
	w.add(w.s.signs, awaitCell+w.awaiting[0], -1)
	w.awaiting = w.awaiting[1:]
	w.turn()
}

// nought: one behind the new top. What stays and stood there was of its region, and was moved.
func (w *worker) nought() {
	w.store(w.from, 0)
	w.from++
	w.turn()
}

// rest: no region is left, though others aren't through with theirs.
func (w *worker) rest() {}

// store: one of the heap's words is what it will be at the end.
func (w *worker) store(place, word int) {
	w.s.words.Store(w.who, place, word)
	w.s.left--
	w.touched(w.s.words)
}

// load: a cell's word.
func (w *worker) load(c *cell.Cells, place int) int {
	word, _ := c.Load(w.who, place)
	w.touched(c)
	return word
}

// add: a cell's word is so much more: what it was.
func (w *worker) add(c *cell.Cells, place, by int) int {
	was, _ := c.Add(w.who, place, by)
	w.touched(c)
	return was
}

// touched: a touch is counted, and isn't kept: nobody asks which ones there were, and over a long sliding they are far more than all else.
func (w *worker) touched(c *cell.Cells) {
	w.s.touches++
	c.Clear()
}
