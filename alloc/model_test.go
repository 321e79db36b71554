package alloc_test

import (
	"math/rand"
	"slices"
	"testing"

	"besom/alloc"
	"besom/api"
)

// block: an object, a filler that is no buffer (owner -1), or a thread's buffer.
type block struct {
	x     api.Head
	owner int
}

// model: an allocator and its heap as a plain list of blocks, looked through from the start for each call.
type model struct {
	size, threads, buffer int
	blocks                []block
}

func (m *model) top() int { return m.at(len(m.blocks)) }

// at: the address of the block of that number.
func (m *model) at(k int) int {
	n := 0
	for _, b := range m.blocks[:k] {
		n += 1 + b.x.Length
	}
	return n
}

func (m *model) owned(thread int) int {
	return slices.IndexFunc(m.blocks, func(b block) bool { return b.owner == thread })
}

func (m *model) knows(thread int) bool { return thread >= 0 && thread < m.threads }

func (m *model) left(thread int) (int, api.Errno) {
	if !m.knows(thread) {
		return 0, api.ErrRange
	}
	if k := m.owned(thread); k >= 0 {
		return 1 + m.blocks[k].x.Length, api.OK
	}
	return 0, api.OK
}

func (m *model) retire(thread int) api.Errno {
	if !m.knows(thread) {
		return api.ErrRange
	}
	if k := m.owned(thread); k >= 0 {
		m.blocks[k].owner = -1
	}
	return api.OK
}

func (m *model) append(x api.Head, owner int) bool {
	if m.top()+1+x.Length > m.size {
		return false
	}
	m.blocks = append(m.blocks, block{x, owner})
	return true
}

func (m *model) alloc(thread int, x api.Head) (int, api.Errno) {
	if !m.knows(thread) || x.Kind < 0 || x.Kind > 14 || x.Length < 0 || x.Length > 4095 || x.Pointers < 0 || x.Pointers > x.Length {
		return 0, api.ErrRange
	}
	at, words := m.top(), 1+x.Length
	if 2*words > m.buffer {
		if !m.append(x, -1) {
			return 0, api.ErrMemory
		}
		return at, api.OK
	}
	if n, _ := m.left(thread); n < words {
		m.retire(thread)
		if !m.append(filler(m.buffer), thread) {
			if !m.append(x, -1) {
				return 0, api.ErrMemory
			}
			return at, api.OK
		}
	}
	k := m.owned(thread)
	at = m.at(k)
	rest := m.blocks[k].x.Length - words
	m.blocks[k] = block{x, -1}
	if rest >= 0 {
		m.blocks = slices.Insert(m.blocks, k+1, block{filler(rest + 1), thread})
	}
	return at, api.OK
}

func (m *model) heads() []api.Head {
	var l []api.Head
	for _, b := range m.blocks {
		l = append(l, b.x)
	}
	return l
}

func someHead(r *rand.Rand) api.Head {
	x := api.Head{Kind: r.Intn(15), Length: r.Intn(5)}
	if r.Intn(4) == 0 {
		x.Length = r.Intn(12)
	}
	x.Pointers = r.Intn(x.Length + 1)
	switch r.Intn(40) {
	case 0:
		x.Kind = []int{-1, 15, 16}[r.Intn(3)]
	case 1:
		x.Length = []int{-1, 4095, 4096}[r.Intn(3)]
	case 2:
		x.Pointers = []int{-1, x.Length + 1}[r.Intn(2)]
	}
	return x
}

// TestAgainstModel: P5.1, over rows of calls, the wrong ones too.
func TestAgainstModel(t *testing.T) {
	seen := map[api.Errno]int{}
	for seed := range 400 {
		r := rand.New(rand.NewSource(int64(seed)))
		told := r.Intn(30)
		m := &model{size: 1 + r.Intn(400), threads: 1 + r.Intn(5), buffer: max(8, told)}
		h := newHeap(t, m.size)
		a := newAllocator(t, h, m.threads, told)
		for k := range 120 {
			n, e, want, f := oneCall(r, a, m)
			seen[f]++
			if n != want || e != f {
				t.Fatalf("seed %d, call %d: %d, %d, want %d, %d", seed, k, n, e, want, f)
			}
			wantHeads(t, h, m.heads()...)
			for thread := -1; thread <= m.threads; thread++ {
				n, e := a.Left(thread)
				if want, f := m.left(thread); n != want || e != f {
					t.Fatalf("seed %d, call %d: Left(%d): %d, %d, want %d, %d", seed, k, thread, n, e, want, f)
				}
			}
			if t.Failed() {
				t.Fatalf("seed %d, call %d", seed, k)
			}
		}
	}
	for _, e := range []api.Errno{api.OK, api.ErrRange, api.ErrMemory} {
		if seen[e] < 100 {
			t.Errorf("only %d calls were answered %d", seen[e], e)
		}
	}
}

// oneCall: one and the same of the allocator and of the model, and what both answer.
func oneCall(r *rand.Rand, a *alloc.Allocator, m *model) (int, api.Errno, int, api.Errno) {
	thread := r.Intn(m.threads)
	if r.Intn(30) == 0 {
		thread = []int{-1, m.threads}[r.Intn(2)]
	}
	if r.Intn(10) == 0 {
		return 0, a.Retire(thread), 0, m.retire(thread)
	}
	x := someHead(r)
	n, e := a.Alloc(thread, x)
	want, f := m.alloc(thread, x)
	return n, e, want, f
}
