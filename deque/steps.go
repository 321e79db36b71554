package deque

import "besom/api"

// The steps of a push.

func (c *Call) pushLoadBottom() {
	c.place = c.load(bottomCell)
	if c.place >= c.room() {
		c.fail(api.ErrFull)
		return
	}
	c.next = (*Call).pushStoreWord
}

func (c *Call) pushStoreWord() {
	c.store(firstCell+c.place, c.word)
	c.next = (*Call).pushStoreBottom
}

func (c *Call) pushStoreBottom() {
	c.store(bottomCell, c.place+1)
	c.end(0)
}

// The steps of a pop.

func (c *Call) popLoadBottom() {
	bottom := c.load(bottomCell)
	if bottom == 0 {
		c.fail(api.ErrEmpty)
		return
	}
	c.place = bottom - 1
	c.next = (*Call).popStoreBottom
}

// popStoreBottom is ahead of the top's load: who loads the bottom from now on leaves that word alone, and who loaded it earlier meets the pop at the top.
func (c *Call) popStoreBottom() {
	c.store(bottomCell, c.place)
	c.next = (*Call).popLoadWord
}

func (c *Call) popLoadWord() {
	c.word = c.load(firstCell + c.place)
	c.next = (*Call).popLoadTop
}

func (c *Call) popLoadTop() {
	c.top = c.load(topCell)
	if c.place > placeOf(c.top) {
		c.end(c.word)
		return
	}
	c.next = (*Call).popStoreNought
}

// popStoreNought: the deque is empty behind this call, whoever has the last word, and begins anew.
func (c *Call) popStoreNought() {
	c.store(bottomCell, 0)
	c.next = (*Call).popStoreTop
	if c.place == placeOf(c.top) {
		c.next = (*Call).popSwapTop
	}
}

func (c *Call) popSwapTop() {
	if c.swapTop(c.freshTop()) {
		c.end(c.word)
		return
	}
	c.next = (*Call).popStoreTop
}

func (c *Call) popStoreTop() {
	c.store(topCell, c.freshTop())
	c.fail(api.ErrEmpty)
}

// The steps of a steal.

func (c *Call) stealLoadTop() {
	c.top = c.load(topCell)
	c.place = placeOf(c.top)
	c.next = (*Call).stealLoadBottom
}

func (c *Call) stealLoadBottom() {
	if c.load(bottomCell) <= c.place {
		c.fail(api.ErrEmpty)
		return
	}
	c.next = (*Call).stealLoadWord
}

func (c *Call) stealLoadWord() {
	c.word = c.load(firstCell + c.place)
	c.next = (*Call).stealSwapTop
}

func (c *Call) stealSwapTop() {
	if !c.swapTop(topWord(c.place+1, tagOf(c.top))) {
		c.fail(api.ErrLost)
		return
	}
	c.end(c.word)
}

// What the steps are made of.

func (c *Call) load(place int) int {
	word, _ := c.cells.Load(c.who, place)
	return word
}

func (c *Call) store(place, word int) { c.cells.Store(c.who, place, word) }

// swapTop: another top, if it is still the one that was loaded: did that go?
func (c *Call) swapTop(top int) bool {
	return c.cells.Swap(c.who, topCell, c.top, top) == api.OK
}

// freshTop: place 0, and a tag that nobody has loaded yet: whoever still holds an older top loses.
func (c *Call) freshTop() int { return topWord(0, tagOf(c.top)+1) }

// room: for how many words there are cells.
func (c *Call) room() int { return c.cells.Len() - firstCell }

// end: it is done, with a word.
func (c *Call) end(word int) { c.next, c.word = nil, word }

// fail: it is done, and without a word.
func (c *Call) fail(e api.Errno) { c.next, c.word, c.errno = nil, 0, e }
