package roots_test

import (
	"math"
	"math/rand"
	"slices"
	"testing"

	"besom/api"
	"besom/roots"
)

// most: how many roots there are at most, by the document.
const most = 1024

var (
	words     = []int{0, 1, 2, 65535, 65536, 65537, 1 << 32, math.MaxInt - 1, math.MaxInt}
	badWords  = []int{-1, -2, -65536, -1 << 32, math.MinInt + 1, math.MinInt}
	farPlaces = []int{1023, 1024, 1025, 65536, 1 << 32, 1<<32 + 1, math.MaxInt - 1, math.MaxInt}
)

// filled: so many roots: 10, 11, and so on.
func filled(t *testing.T, part, many int) *roots.Roots {
	t.Helper()
	r := roots.New(part)
	if r == nil {
		t.Fatalf("New(%d): nil", part)
	}
	for i := range many {
		wantPush(t, r, 10+i, api.OK)
	}
	return r
}

// row: what filled pushes.
func row(many int) []int {
	var l []int
	for i := range many {
		l = append(l, 10+i)
	}
	return l
}

func wantPush(t *testing.T, r *roots.Roots, word int, want api.Errno) {
	t.Helper()
	if e := r.Push(word); e != want {
		t.Fatalf("Push(%d): %d, want %d", word, e, want)
	}
}

func wantPop(t *testing.T, r *roots.Roots, word int, want api.Errno) {
	t.Helper()
	if w, e := r.Pop(); w != word || e != want {
		t.Fatalf("Pop: %d, %d, want %d, %d", w, e, word, want)
	}
}

func wantGet(t *testing.T, r *roots.Roots, at, word int, want api.Errno) {
	t.Helper()
	if w, e := r.Get(at); w != word || e != want {
		t.Fatalf("Get(%d): %d, %d, want %d, %d", at, w, e, word, want)
	}
}

func wantSet(t *testing.T, r *roots.Roots, at, word int, want api.Errno) {
	t.Helper()
	if e := r.Set(at, word); e != want {
		t.Fatalf("Set(%d, %d): %d, want %d", at, word, e, want)
	}
}

// wantRow: just these roots, by all the ways to them.
func wantRow(t *testing.T, what string, r *roots.Roots, want ...int) {
	t.Helper()
	if n := r.Len(); n != len(want) {
		t.Fatalf("%s: Len: %d, want %d", what, n, len(want))
	}
	if got := r.All(); !slices.Equal(got, want) {
		t.Fatalf("%s: All: %v, want %v", what, got, want)
	}
	for at, word := range want {
		wantGet(t, r, at, word, api.OK)
	}
	wantGet(t, r, -1, 0, api.ErrNone)
	wantGet(t, r, len(want), 0, api.ErrNone)
}

// P9.1: a new row has no roots, whatever the size of its parts.
func TestNew(t *testing.T) {
	for _, part := range []int{math.MinInt, -1, 0, 1, 2, 63, 64, 65, math.MaxInt} {
		r := filled(t, part, 0)
		wantRow(t, "New", r)
		wantPop(t, r, 0, api.ErrEmpty)
		wantRow(t, "New, and popped", r)
	}
}

// P9.1: what is pushed is the last one, and popped first.
func TestPushPop(t *testing.T) {
	r := filled(t, 2, 0)
	wantPush(t, r, 7, api.OK)
	wantRow(t, "7", r, 7)
	wantPush(t, r, 0, api.OK)
	wantPush(t, r, 7, api.OK)
	wantRow(t, "7, 0, 7", r, 7, 0, 7)
	wantPop(t, r, 7, api.OK)
	wantPop(t, r, 0, api.OK)
	wantRow(t, "popped twice", r, 7)
	wantPush(t, r, 9, api.OK)
	wantRow(t, "9 behind 7", r, 7, 9)
	wantPop(t, r, 9, api.OK)
	wantPop(t, r, 7, api.OK)
	wantPop(t, r, 0, api.ErrEmpty)
	wantPop(t, r, 0, api.ErrEmpty)
	wantRow(t, "all popped", r)
	wantPush(t, r, 5, api.OK)
	wantRow(t, "5 behind none", r, 5)
}

// P9.1: any word from 0 on can be pushed and set; what a root leads to isn't asked here.
func TestAnyWord(t *testing.T) {
	r := filled(t, 3, 0)
	for _, w := range words {
		wantPush(t, r, w, api.OK)
	}
	wantRow(t, "any", r, words...)
	for at, w := range slices.Backward(words) {
		wantSet(t, r, len(words)-1-at, w, api.OK)
	}
	backward := slices.Clone(words)
	slices.Reverse(backward)
	wantRow(t, "any, set backward", r, backward...)
}

// P9.1: Set changes its root alone, the first and the last one too.
func TestSet(t *testing.T) {
	for _, many := range []int{1, 2, 3, 64, most} {
		for _, at := range []int{0, many / 2, many - 1} {
			r, want := filled(t, 2, many), row(many)
			wantSet(t, r, at, 5000, api.OK)
			want[at] = 5000
			wantRow(t, "Set", r, want...)
			wantSet(t, r, at, 0, api.OK)
			want[at] = 0
			wantRow(t, "Set once more", r, want...)
		}
	}
}

// P9.1: there are MaxRoots roots at most; behind a pop there is room for one more.
func TestFull(t *testing.T) {
	r := filled(t, 64, most-1)
	wantPush(t, r, 1, api.OK)
	want := append(row(most-1), 1)
	for range 3 {
		wantPush(t, r, 2, api.ErrFull)
		wantPush(t, r, 0, api.ErrFull)
		wantRow(t, "full", r, want...)
	}
	for _, w := range badWords {
		wantPush(t, r, w, api.ErrRange) // ahead of ErrFull
	}
	wantRow(t, "full, wrong words", r, want...)
	wantPop(t, r, 1, api.OK)
	wantPush(t, r, 3, api.OK)
	wantPush(t, r, 4, api.ErrFull)
	wantRow(t, "full again", r, append(row(most-1), 3)...)
	for i := most - 1; i > 0; i-- {
		wantGet(t, r, i, r.All()[i], api.OK)
		r.Pop()
		wantGet(t, r, i, 0, api.ErrNone)
	}
	wantPop(t, r, 10, api.OK)
	wantPop(t, r, 0, api.ErrEmpty)
}

// P9.1: words below 0 aren't taken, and change nothing.
func TestBadWords(t *testing.T) {
	for _, many := range []int{0, 1, 5, most} {
		r := filled(t, 2, many)
		for _, w := range badWords {
			wantPush(t, r, w, api.ErrRange)
			for _, at := range []int{0, many / 2, many - 1} {
				if many > 0 {
					wantSet(t, r, at, w, api.ErrRange)
				}
			}
		}
		wantRow(t, "wrong words", r, row(many)...)
	}
}

// P9.1: no root is below 0, nor behind the last one, also where one was: ErrNone, of Set ahead of ErrRange.
func TestBadPlaces(t *testing.T) {
	for _, many := range []int{0, 1, 5, most} {
		r := filled(t, 2, many)
		for range min(many, 2) {
			r.Pop()
		}
		left := many - min(many, 2)
		places := []int{-1, -2, -left - 1, -1 << 32, math.MinInt, left, left + 1, left + 2}
		for _, at := range append(places, farPlaces...) {
			wantGet(t, r, at, 0, api.ErrNone)
			for _, w := range append([]int{0, 7, math.MaxInt}, badWords...) {
				wantSet(t, r, at, w, api.ErrNone)
			}
		}
		wantRow(t, "wrong places", r, row(left)...)
	}
}

// R6: a list that is answered is new memory, spare room too, and stays as it is.
func TestAllIsNew(t *testing.T) {
	for _, many := range []int{0, 1, 5, 64, most - 1, most} {
		r := filled(t, 2, many)
		if many < most {
			wantPush(t, r, 99, api.OK)
			wantPop(t, r, 99, api.OK) // so that the row has had room behind its end
		}
		one, other := r.All(), r.All()
		one = one[:cap(one)]
		for i := range one {
			one[i] = -5
		}
		wantRow(t, "an answer written over", r, row(many)...)
		for at := range many {
			wantSet(t, r, at, 1, api.OK)
		}
		r.Push(2)
		if !slices.Equal(other, row(many)) {
			t.Errorf("%d roots: an answer changed with the row", many)
		}
		for i := range one {
			if one[i] != -5 {
				t.Fatalf("%d roots: root %d was written into an answer", many, i)
			}
		}
	}
}

// R8: rows know nothing of each other.
func TestApart(t *testing.T) {
	a, b := filled(t, 2, 3), filled(t, 3, 4)
	a.Set(0, 5)
	b.Pop()
	wantClaim(t, a, 1, 0, 2, api.OK)
	wantClaim(t, b, 2, 0, 3, api.OK)
	wantClaim(t, b, 2, 0, 0, api.ErrEmpty)
	a.Open()
	wantRow(t, "one", a, 5, 11, 12)
	wantRow(t, "other", b, 10, 11, 12)
	wantLog(t, "one", a)
	wantLog(t, "other", b, 2, 2)
}

// model: the chapter's words, told plainly, apart from the program.
type model struct {
	part, next int
	row, who   []int
}

// claim: parts are counted off root by root.
func (m *model) claim(who int) (int, int, api.Errno) {
	if who < 0 || who > 63 {
		return 0, 0, api.ErrRange
	}
	m.who = append(m.who, who)
	from := 0
	for range m.next {
		from += m.part
	}
	m.next++
	to := from
	for to < from+m.part && to < len(m.row) {
		to++
	}
	if to == from {
		return 0, 0, api.ErrEmpty
	}
	return from, to, api.OK
}

func (m *model) push(word int) api.Errno {
	switch {
	case word < 0:
		return api.ErrRange
	case len(m.row) == most:
		return api.ErrFull
	}
	m.row = append(m.row, word)
	return api.OK
}

func (m *model) pop() (int, api.Errno) {
	if len(m.row) == 0 {
		return 0, api.ErrEmpty
	}
	word := m.row[len(m.row)-1]
	m.row = m.row[:len(m.row)-1]
	return word, api.OK
}

func (m *model) get(at int) (int, api.Errno) {
	for i, w := range m.row {
		if i == at {
			return w, api.OK
		}
	}
	return 0, api.ErrNone
}

func (m *model) set(at, word int) api.Errno {
	if _, e := m.get(at); e != api.OK {
		return e
	}
	if word < 0 {
		return api.ErrRange
	}
	m.row[at] = word
	return api.OK
}

// call: one that is drawn, of the program and of the model, right or wrong; what it answered.
func call(t *testing.T, draw *rand.Rand, r *roots.Roots, m *model) api.Errno {
	t.Helper()
	at, word := draw.Intn(len(m.row)+3)-1, draw.Intn(70000)-5000
	switch draw.Intn(16) {
	case 0, 1, 2, 3, 4, 5:
		want := m.push(word)
		wantPush(t, r, word, want)
		return want
	case 6, 7, 8, 9:
		w, want := m.pop()
		wantPop(t, r, w, want)
		return want
	case 10, 11:
		want := m.set(at, word)
		wantSet(t, r, at, word, want)
		return want
	case 12, 13:
		w, want := m.get(at)
		wantGet(t, r, at, w, want)
		return want
	case 14:
		who := draw.Intn(68) - 2
		from, to, want := m.claim(who)
		wantClaim(t, r, who, from, to, want)
		return want
	}
	if draw.Intn(4) == 0 {
		r.Open()
		m.next, m.who = 0, nil
	}
	return api.OK
}

// P9.1: many calls of all kinds, right and wrong, against a plain row; pushes and pops in the midst of claims too.
func TestAgainstModel(t *testing.T) {
	seen := map[api.Errno]int{}
	for seed := range 120 {
		draw := rand.New(rand.NewSource(int64(seed)))
		part := draw.Intn(9) - 1
		m := &model{part: max(part, 1)}
		many := []int{0, 0, 3, 40, most - 2, most}[seed%6]
		r := filled(t, part, many)
		m.row = row(many)
		for range 300 {
			seen[call(t, draw, r, m)]++
			if r.Len() != len(m.row) {
				t.Fatalf("Len: %d, want %d", r.Len(), len(m.row))
			}
		}
		wantRow(t, "model", r, m.row...)
		wantLog(t, "model", r, m.who...)
	}
	for _, e := range []api.Errno{api.OK, api.ErrRange, api.ErrFull, api.ErrEmpty, api.ErrNone} {
		if seen[e] < 100 {
			t.Errorf("only %d calls answered %d", seen[e], e)
		}
	}
}
