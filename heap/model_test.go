package heap_test

import (
	"math/rand"
	"slices"
	"testing"

	"besom/api"
	"besom/heap"
)

// block: an object or filler of the model, with the words behind its head.
type block struct {
	x     api.Head
	words []int
}

// model: a heap as a plain list of blocks, looked through from the start for each call.
type model struct {
	size   int
	blocks []block
}

func (m *model) top() int {
	n := 0
	for _, b := range m.blocks {
		n += 1 + len(b.words)
	}
	return n
}

// index: the number of the block at an address, or -1.
func (m *model) index(at int) int {
	n := 0
	for k, b := range m.blocks {
		if n == at {
			return k
		}
		n += 1 + len(b.words)
	}
	return -1
}

func (m *model) leads(word int) bool {
	k := m.index(word - 1)
	return word == 0 || k >= 0 && m.blocks[k].x.Kind != 15
}

func (m *model) words() []int {
	var l []int
	for _, b := range m.blocks {
		l = append(append(l, word(b.x.Kind, b.x.Length, b.x.Pointers)), b.words...)
	}
	return append(l, make([]int, m.size-len(l))...)
}

func may(x api.Head) bool {
	return x.Kind >= 0 && x.Kind <= 15 && x.Length >= 0 && x.Length <= 4095 && x.Pointers >= 0 && x.Pointers <= x.Length && (x.Kind < 15 || x.Pointers == 0)
}

func fresh(x api.Head) block { return block{x, make([]int, x.Length)} }

func (m *model) place(x api.Head) (int, api.Errno) {
	at := m.top()
	switch {
	case !may(x):
		return 0, api.ErrRange
	case at+1+x.Length > m.size:
		return 0, api.ErrFull
	}
	m.blocks = append(m.blocks, fresh(x))
	return at, api.OK
}

func (m *model) split(at int, x api.Head) (int, api.Errno) {
	k := m.index(at)
	switch {
	case k < 0:
		return 0, api.ErrAddress
	case m.blocks[k].x.Kind != 15:
		return 0, api.ErrHead
	case !may(x):
		return 0, api.ErrRange
	case m.blocks[k].x.Length < x.Length:
		return 0, api.ErrFull
	}
	left := m.blocks[k].x.Length - x.Length
	m.blocks[k] = fresh(x)
	if left == 0 {
		return 0, api.OK
	}
	m.blocks = slices.Insert(m.blocks, k+1, fresh(api.Head{Kind: 15, Length: left - 1}))
	return at + 1 + x.Length, api.OK
}

func (m *model) read(at, field int) (int, api.Errno) {
	k := m.index(at)
	switch {
	case k < 0:
		return 0, api.ErrAddress
	case field < 0 || field >= len(m.blocks[k].words):
		return 0, api.ErrField
	}
	return m.blocks[k].words[field], api.OK
}

func (m *model) write(at, field, word int) api.Errno {
	_, e := m.read(at, field)
	if e != api.OK {
		return e
	}
	b := m.blocks[m.index(at)]
	switch {
	case b.x.Kind == 15:
		return api.ErrField
	case field < b.x.Pointers && !m.leads(word):
		return api.ErrRef
	}
	b.words[field] = word
	return api.OK
}

func someHead(r *rand.Rand) api.Head {
	x := api.Head{Kind: r.Intn(17) - 1, Length: r.Intn(9) - 1}
	if r.Intn(3) == 0 {
		x.Kind = 15
	}
	if x.Kind != 15 || r.Intn(8) == 0 {
		x.Pointers = r.Intn(9) - 1
	}
	return x
}

// TestAgainstModel: P1.1, over rows of calls, the wrong ones too.
func TestAgainstModel(t *testing.T) {
	seen := map[api.Errno]int{}
	for seed := range 300 {
		r := rand.New(rand.NewSource(int64(seed)))
		m := &model{size: 1 + r.Intn(80)}
		h, _ := heap.New(m.size)
		for k := range 120 {
			at, field, value, x := r.Intn(m.size+2)-1, r.Intn(9)-1, r.Intn(m.size+3)-1, someHead(r)
			var n, want int
			var e, f api.Errno
			switch r.Intn(4) {
			case 0:
				n, e = h.Place(x)
				want, f = m.place(x)
			case 1:
				n, e = h.Split(at, x)
				want, f = m.split(at, x)
			case 2:
				n, e = h.Read(at, field)
				want, f = m.read(at, field)
			case 3:
				e = h.Write(at, field, value)
				f = m.write(at, field, value)
			}
			seen[f]++
			if n != want || e != f || h.Top() != m.top() || !slices.Equal(h.Words(), m.words()) {
				t.Fatalf("seed %d, call %d: %d, %d, want %d, %d", seed, k, n, e, want, f)
			}
			if e := h.Check(); e != api.OK {
				t.Fatalf("seed %d, call %d: Check: %d", seed, k, e)
			}
		}
		again := of(t, h.Words(), h.Top())
		wantHeap(t, "Of Words", again, h.Words(), h.Top(), walked(h))
	}
	for e := api.OK; e <= api.ErrFull; e++ {
		if seen[e] == 0 {
			t.Errorf("no call was answered %d", e)
		}
	}
}
