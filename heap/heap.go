// Package heap is layer 1: objects in a row of words: see shared/doc/01-heap.md.
package heap

import (
	"iter"
	"slices"

	"besom/api"
)

// How much one of a head's Pointers, and one of its Length, counts in its word.
const (
	pointersUnit = 16
	lengthUnit   = 65536
)

// Heap: objects in a row of words.
type Heap struct {
	words  []int
	top    int
	begins []bool // a word within an object may look like a head: only this tells, without a walk, where one stands
}

// Pack: a head's word.
func Pack(h api.Head) (int, api.Errno) {
	if !mayBe(h) {
		return 0, api.ErrRange
	}
	return h.Kind + pointersUnit*h.Pointers + lengthUnit*h.Length, api.OK
}

// Unpack: a word's head.
func Unpack(word int) (api.Head, api.Errno) {
	if word < 0 {
		return api.Head{}, api.ErrHead
	}
	x := api.Head{
		Kind:     word % pointersUnit,
		Length:   word / lengthUnit,
		Pointers: word % lengthUnit / pointersUnit,
	}
	if !mayBe(x) {
		return api.Head{}, api.ErrHead
	}
	return x, api.OK
}

// New: of noughts.
func New(size int) (*Heap, api.Errno) {
	if !maySize(size) {
		return nil, api.ErrRange
	}
	return &Heap{words: make([]int, size), begins: make([]bool, size)}, api.OK
}

// Of: of words.
func Of(words []int, top int) (*Heap, api.Errno) {
	if !maySize(len(words)) || top < 0 || top > len(words) {
		return nil, api.ErrRange
	}
	h := &Heap{words: copied(words), top: top, begins: make([]bool, len(words))}
	if !h.find() {
		return nil, api.ErrHead
	}
	return h, api.OK
}

// Size: how many words there are.
func (h *Heap) Size() int { return len(h.words) }

// Top: how many are taken.
func (h *Heap) Top() int { return h.top }

// Place: one more, at the top.
func (h *Heap) Place(x api.Head) (int, api.Errno) {
	if !mayBe(x) {
		return 0, api.ErrRange
	}
	if room(x) > len(h.words)-h.top {
		return 0, api.ErrFull
	}
	at := h.top
	h.lay(at, x)
	h.top += room(x)
	return at, api.OK
}

// Split: an object in a filler's place; the address of the filler that is left behind it, or 0.
func (h *Heap) Split(at int, x api.Head) (int, api.Errno) {
	old, e := h.Head(at)
	if e != api.OK {
		return 0, e
	}
	if old.Kind != api.Filler {
		return 0, api.ErrHead
	}
	if !mayBe(x) {
		return 0, api.ErrRange
	}
	left := room(old) - room(x)
	if left < 0 {
		return 0, api.ErrFull
	}
	h.lay(at, x)
	if left == 0 {
		return 0, api.OK
	}
	rest := at + room(x)
	h.lay(rest, api.Head{Kind: api.Filler, Length: left - 1})
	return rest, api.OK
}

// Head: that of an address.
func (h *Heap) Head(at int) (api.Head, api.Errno) {
	if at < 0 || at >= h.top || !h.begins[at] {
		return api.Head{}, api.ErrAddress
	}
	return Unpack(h.words[at])
}

// Read: an object's word.
func (h *Heap) Read(at, field int) (int, api.Errno) {
	x, e := h.Head(at)
	if e != api.OK {
		return 0, e
	}
	if !hasField(x, field) {
		return 0, api.ErrField
	}
	return h.words[at+1+field], api.OK
}

// Write: it is another one.
func (h *Heap) Write(at, field, word int) api.Errno {
	x, e := h.Head(at)
	if e != api.OK {
		return e
	}
	if !hasField(x, field) || x.Kind == api.Filler {
		return api.ErrField
	}
	if field < x.Pointers && h.leadsAstray(word) {
		return api.ErrRef
	}
	h.words[at+1+field] = word
	return api.OK
}

// Walk: each address and head.
func (h *Heap) Walk() iter.Seq2[int, api.Head] {
	return func(yield func(at int, x api.Head) bool) {
		for at := 0; at < h.top; {
			x, _ := h.Head(at)
			if !yield(at, x) {
				return
			}
			at += room(x)
		}
	}
}

// Check: do all references lead to objects?
func (h *Heap) Check() api.Errno {
	astray := h.leadsAstray
	for at, x := range h.Walk() {
		if slices.ContainsFunc(h.words[at+1:at+1+x.Pointers], astray) {
			return api.ErrRef
		}
	}
	return api.OK
}

// Words: all.
func (h *Heap) Words() []int { return copied(h.words) }

// find notes where heads stand, from 0 up to the top; false, if something else stands there.
func (h *Heap) find() bool {
	at := 0
	for at < h.top {
		x, e := Unpack(h.words[at])
		if e != api.OK {
			return false
		}
		h.begins[at] = true
		at += room(x)
	}
	return at == h.top
}

// lay puts a head at a place, and noughts behind it: other words may have stood there.
func (h *Heap) lay(at int, x api.Head) {
	clear(h.words[at : at+room(x)])
	h.words[at], _ = Pack(x)
	h.begins[at] = true
}

// leadsAstray: is a word neither 0 nor a reference to an object?
func (h *Heap) leadsAstray(word int) bool {
	if word == 0 {
		return false
	}
	x, e := h.Head(word - 1)
	return e != api.OK || x.Kind == api.Filler
}

// mayBe: may there be such a head?
func mayBe(x api.Head) bool {
	if x.Kind < 0 || x.Kind > api.Filler || x.Length < 0 || x.Length > api.MaxLength {
		return false
	}
	if x.Kind == api.Filler {
		return x.Pointers == 0
	}
	return x.Pointers >= 0 && x.Pointers <= x.Length
}

// maySize: may a heap have so many words?
func maySize(size int) bool { return size >= 1 && size <= api.MaxWords }

// hasField: has an object, or a filler, of that head such a word?
func hasField(x api.Head, field int) bool { return field >= 0 && field < x.Length }

// room: how many words stand there with such a head, the head too.
func room(x api.Head) int { return 1 + x.Length }

// copied: the same words in memory of their own, without spare room.
func copied(words []int) []int {
	l := make([]int, len(words))
	copy(l, words)
	return l
}
