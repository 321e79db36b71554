package spill

import "besom/api"

// lock is the first step, and the next one too as long as somebody has the lock: nobody waits inside a step.
func (c *Call) lock() {
	if c.cells.Swap(c.who, lockCell, free, c.who+1) == api.OK {
		c.next = (*Call).loadMany
	}
}

func (c *Call) loadMany() {
	c.many = c.load(manyCell)
	c.next = c.move
}

func (c *Call) putWord() {
	if c.many >= c.room() {
		c.fail(api.ErrFull)
		return
	}
	c.store(firstCell+c.many, c.word)
	c.word = 0 // it is the spill's now, and no answer
	c.many++
	c.next = (*Call).storeMany
}

func (c *Call) takeWord() {
	if c.many <= 0 {
		c.fail(api.ErrEmpty)
		return
	}
	c.many--
	c.word = c.load(firstCell + c.many)
	c.next = (*Call).storeMany
}

func (c *Call) storeMany() {
	c.store(manyCell, c.many)
	c.next = (*Call).unlock
}

// unlock is the last step, however a call ends.
func (c *Call) unlock() {
	c.store(lockCell, free)
	c.next = nil
}

// fail: it is done with this step, and without a word.
func (c *Call) fail(e api.Errno) {
	c.word, c.errno = 0, e
	c.unlock()
}

func (c *Call) load(place int) int {
	word, _ := c.cells.Load(c.who, place)
	return word
}

func (c *Call) store(place, word int) { c.cells.Store(c.who, place, word) }

// room: for how many words there are cells.
func (c *Call) room() int { return c.cells.Len() - firstCell }
