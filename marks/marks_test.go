package marks_test

import (
	"math"
	"math/rand"
	"slices"
	"testing"

	"besom/api"
	"besom/marks"
)

// sizes: the least and the greatest, and those around where words of bits end.
var sizes = []int{1, 2, 63, 64, 65, 127, 128, 129, 1000, 65535, 65536}

func newMap(t *testing.T, size int) *marks.Map {
	t.Helper()
	m, e := marks.New(size)
	if m == nil || e != api.OK {
		t.Fatalf("New(%d): %d", size, e)
	}
	return m
}

func mapOf(t *testing.T, size int, places ...int) *marks.Map {
	t.Helper()
	m := newMap(t, size)
	for _, at := range places {
		wantSet(t, m, at, true)
	}
	return m
}

func wantSet(t *testing.T, m *marks.Map, at int, fresh bool) {
	t.Helper()
	if got, e := m.Set(at); got != fresh || e != api.OK {
		t.Errorf("Set(%d): %v, %d, want %v", at, got, e, fresh)
	}
}

func wantCount(t *testing.T, m *marks.Map, from, to, want int) {
	t.Helper()
	if n, e := m.Count(from, to); n != want || e != api.OK {
		t.Errorf("Count(%d, %d): %d, %d, want %d", from, to, n, e, want)
	}
}

func wantNext(t *testing.T, m *marks.Map, at, want int, errno api.Errno) {
	t.Helper()
	if n, e := m.Next(at); n != want || e != errno {
		t.Errorf("Next(%d): %d, %d, want %d, %d", at, n, e, want, errno)
	}
}

// wantPlaces: all that a map of that size tells of itself; the places rise.
func wantPlaces(t *testing.T, what string, m *marks.Map, size int, places ...int) {
	t.Helper()
	if m.Size() != size {
		t.Errorf("%s: Size: %d, want %d", what, m.Size(), size)
	}
	if got := slices.Collect(m.All()); !slices.Equal(got, places) {
		t.Errorf("%s: All: %v, want %v", what, got, places)
	}
	wantCount(t, m, 0, size, len(places))
	rest := places
	for at := range size {
		set := len(rest) > 0 && rest[0] == at
		if m.Has(at) != set {
			t.Errorf("%s: Has(%d): %v", what, at, !set)
		}
		if len(rest) == 0 {
			wantNext(t, m, at, 0, api.ErrNone)
		} else {
			wantNext(t, m, at, rest[0], api.OK)
		}
		if set {
			rest = rest[1:]
		}
	}
	wantNext(t, m, size, 0, api.ErrNone)
}

// outside: numbers that are no places of a map of that size, and aren't its size either.
func outside(size int) []int {
	return []int{-1, -2, -63, -64, -65, -size, size + 1, size + 63, size + 64, 1 << 20, 1 << 32, -1 << 32, 1<<32 + 1, math.MinInt, math.MinInt + 1, math.MaxInt, math.MaxInt - 1}
}

// P4.1: New, Size, and maps of which no place is set.
func TestNew(t *testing.T) {
	for _, size := range sizes {
		wantPlaces(t, "New", newMap(t, size), size)
	}
	for _, size := range []int{0, -1, -64, 65537, 65600, 1 << 32, 1<<32 + 1, math.MinInt, math.MaxInt} {
		if m, e := marks.New(size); m != nil || e != api.ErrRange {
			t.Errorf("New(%d): %v, %d, want nil, ErrRange", size, m, e)
		}
	}
}

// P4.1: the first and the last place, and those around where words of bits end; each set twice.
func TestSet(t *testing.T) {
	for _, size := range sizes {
		m := newMap(t, size)
		var places []int
		for _, at := range []int{0, 1, 2, 31, 32, 33, 62, 63, 64, 65, 126, 127, 128, 998, 999, 1000, 65534, 65535} {
			if at >= size {
				break
			}
			wantSet(t, m, at, true)
			wantSet(t, m, at, false)
			places = append(places, at)
		}
		if last := size - 1; places[len(places)-1] != last {
			wantSet(t, m, last, true)
			places = append(places, last)
		}
		for _, at := range places {
			wantSet(t, m, at, false)
		}
		wantPlaces(t, "Set", m, size, places...)
	}
}

// The order in which places are set isn't that in which they are told.
func TestSetInAnyOrder(t *testing.T) {
	wantPlaces(t, "falling", mapOf(t, 200, 199, 130, 129, 64, 63, 5, 0), 200, 0, 5, 63, 64, 129, 130, 199)
	wantPlaces(t, "mixed", mapOf(t, 200, 64, 199, 0, 130, 63, 129, 5), 200, 0, 5, 63, 64, 129, 130, 199)
}

// Each place alone: no other one is set with it.
func TestSetAlone(t *testing.T) {
	for at := range 130 {
		wantPlaces(t, "alone", mapOf(t, 130, at), 130, at)
	}
}

// All places of maps of all these sizes.
func TestSetAll(t *testing.T) {
	for _, size := range sizes {
		m := newMap(t, size)
		var places []int
		for at := range size {
			wantSet(t, m, at, true)
			places = append(places, at)
		}
		wantPlaces(t, "all", m, size, places...)
	}
}

// Places that there aren't: ErrRange, of Has false, and nothing is changed.
func TestNoSuchPlace(t *testing.T) {
	for _, size := range sizes {
		for _, m := range []*marks.Map{newMap(t, size), mapOf(t, size, size-1)} {
			places := slices.Collect(m.All())
			for _, at := range append(outside(size), size) {
				if set, e := m.Set(at); set || e != api.ErrRange {
					t.Errorf("size %d: Set(%d): %v, %d, want false, ErrRange", size, at, set, e)
				}
				if m.Has(at) {
					t.Errorf("size %d: Has(%d)", size, at)
				}
			}
			for _, at := range outside(size) {
				wantNext(t, m, at, 0, api.ErrRange)
			}
			wantPlaces(t, "no such place", m, size, places...)
		}
	}
}

// P4.1: Count, of all parts of a map: from itself on, ahead of its end.
func TestCount(t *testing.T) {
	places := []int{0, 1, 7, 62, 63, 64, 65, 100, 127, 128, 149}
	m := mapOf(t, 150, places...)
	for from := range 151 {
		for to := from; to <= 150; to++ {
			want := 0
			for _, at := range places {
				if at >= from && at < to {
					want++
				}
			}
			wantCount(t, m, from, to, want)
		}
	}
	for _, size := range sizes {
		m := mapOf(t, size, size-1)
		wantCount(t, m, 0, size, 1)
		wantCount(t, m, 0, size-1, 0)
		wantCount(t, m, size-1, size, 1)
		wantCount(t, m, size-1, size-1, 0)
		wantCount(t, m, size, size, 0)
		wantCount(t, m, 0, 0, 0)
	}
}

// P4.1: what may not be counted: from ahead of 0, from beyond to, to beyond the size.
func TestCountRefused(t *testing.T) {
	for _, size := range sizes {
		m := mapOf(t, size, 0)
		refused := [][2]int{{1, 0}, {size, 0}, {size, size - 1}, {-1, -2}, {size + 2, size + 1}, {math.MaxInt, math.MinInt}, {math.MinInt, math.MaxInt}}
		for _, n := range outside(size) {
			refused = append(refused, [2]int{0, n}, [2]int{size, n}, [2]int{n, n}, [2]int{n, 0}, [2]int{n, size})
		}
		for _, x := range refused {
			if n, e := m.Count(x[0], x[1]); n != 0 || e != api.ErrRange {
				t.Errorf("size %d: Count(%d, %d): %d, %d, want 0, ErrRange", size, x[0], x[1], n, e)
			}
		}
		wantPlaces(t, "Count refused", m, size, 0)
	}
}

// P4.1: Next, at a place that is set, ahead of one, behind the last one, and at the size.
func TestNext(t *testing.T) {
	m := mapOf(t, 300, 3, 64, 191, 256)
	for _, x := range []struct {
		at, want int
		errno    api.Errno
	}{
		{0, 3, api.OK}, {3, 3, api.OK}, {4, 64, api.OK}, {63, 64, api.OK}, {64, 64, api.OK},
		{65, 191, api.OK}, {128, 191, api.OK}, {191, 191, api.OK}, {192, 256, api.OK}, {256, 256, api.OK},
		{257, 0, api.ErrNone}, {299, 0, api.ErrNone}, {300, 0, api.ErrNone}, {301, 0, api.ErrRange}, {-1, 0, api.ErrRange},
	} {
		wantNext(t, m, x.at, x.want, x.errno)
	}
	for _, size := range sizes {
		m := mapOf(t, size, size-1)
		wantNext(t, m, 0, size-1, api.OK)
		wantNext(t, m, size-1, size-1, api.OK)
		wantNext(t, m, size, 0, api.ErrNone)
		wantNext(t, mapOf(t, size, 0), 0, 0, api.OK)
	}
}

// R9: All gives the same, as often as it is gone through, also within itself.
func TestAllAgain(t *testing.T) {
	places := []int{0, 63, 64, 70, 199}
	all := mapOf(t, 200, places...).All()
	for range 3 {
		if got := slices.Collect(all); !slices.Equal(got, places) {
			t.Errorf("All: %v, want %v", got, places)
		}
	}
	var outer, inner []int
	for at := range all {
		outer = append(outer, at)
		inner = slices.Collect(all)
		if !slices.Equal(inner, places) {
			t.Errorf("All within All: %v, want %v", inner, places)
		}
	}
	if !slices.Equal(outer, places) {
		t.Errorf("All around All: %v, want %v", outer, places)
	}
}

// R9: told to end, All gives no more; gone through again it begins anew.
func TestAllEndsEarly(t *testing.T) {
	places := []int{0, 1, 63, 64, 70, 128, 199}
	all := mapOf(t, 200, places...).All()
	for many := 1; many <= len(places); many++ {
		var got []int
		all(func(at int) bool {
			got = append(got, at)
			return len(got) < many
		})
		if !slices.Equal(got, places[:many]) {
			t.Errorf("All, ended behind %d: %v, want %v", many, got, places[:many])
		}
	}
	if got := slices.Collect(all); !slices.Equal(got, places) {
		t.Errorf("All, behind those that ended: %v, want %v", got, places)
	}
	newMap(t, 200).All()(func(at int) bool {
		t.Errorf("All of none gives %d", at)
		return false
	})
}

// Going through a map changes nothing of it.
func TestAllLeavesTheMap(t *testing.T) {
	m := mapOf(t, 70, 2, 69)
	for range m.All() {
		break
	}
	wantPlaces(t, "behind All", m, 70, 2, 69)
}

// P4.1: Clear: none is set, the size is the same, and places can be set anew.
func TestClear(t *testing.T) {
	for _, size := range sizes {
		m := newMap(t, size)
		m.Clear()
		wantPlaces(t, "Clear of none", m, size)
		for at := range size {
			wantSet(t, m, at, true)
		}
		m.Clear()
		wantPlaces(t, "Clear", m, size)
		m.Clear()
		wantPlaces(t, "Clear again", m, size)
		wantSet(t, m, size-1, true)
		wantSet(t, m, size-1, false)
		wantPlaces(t, "behind Clear", m, size, size-1)
	}
}

// R8: maps know nothing of each other.
func TestApart(t *testing.T) {
	a, b := mapOf(t, 64, 5), mapOf(t, 64, 6)
	wantPlaces(t, "one", a, 64, 5)
	a.Clear()
	wantPlaces(t, "other", b, 64, 6)
}

// model: the chapter's words, told plainly, apart from the program.
type model []bool

func (m model) set(at int) (bool, api.Errno) {
	if at < 0 || at >= len(m) {
		return false, api.ErrRange
	}
	was := m[at]
	m[at] = true
	return !was, api.OK
}

func (m model) has(at int) bool { return at >= 0 && at < len(m) && m[at] }

func (m model) count(from, to int) (int, api.Errno) {
	if from < 0 || from > to || to > len(m) {
		return 0, api.ErrRange
	}
	n := 0
	for _, set := range m[from:to] {
		if set {
			n++
		}
	}
	return n, api.OK
}

func (m model) next(at int) (int, api.Errno) {
	if at < 0 || at > len(m) {
		return 0, api.ErrRange
	}
	if n := slices.Index(m[at:], true); n >= 0 {
		return at + n, api.OK
	}
	return 0, api.ErrNone
}

func (m model) places() []int {
	var l []int
	for at, set := range m {
		if set {
			l = append(l, at)
		}
	}
	return l
}

// P4.1: many calls of all kinds, right and wrong, against the model.
func TestAgainstModel(t *testing.T) {
	r := rand.New(rand.NewSource(4))
	seen := map[api.Errno]int{}
	for range 300 {
		size := 1 + r.Intn(200)
		m, want := newMap(t, size), make(model, size)
		for range 200 {
			a, b := r.Intn(size+4)-2, r.Intn(size+4)-2
			switch r.Intn(30) {
			case 0:
				m.Clear()
				clear(want)
			case 1, 2, 3:
				set, e := m.Set(a)
				if wantSet, wantE := want.set(a); set != wantSet || e != wantE {
					t.Fatalf("size %d: Set(%d): %v, %d, want %v, %d", size, a, set, e, wantSet, wantE)
				}
				seen[e]++
			}
			if m.Has(a) != want.has(a) {
				t.Fatalf("size %d: Has(%d): %v", size, a, m.Has(a))
			}
			n, e := m.Count(a, b)
			if wantN, wantE := want.count(a, b); n != wantN || e != wantE {
				t.Fatalf("size %d: Count(%d, %d): %d, %d, want %d, %d", size, a, b, n, e, wantN, wantE)
			}
			seen[e]++
			n, e = m.Next(b)
			if wantN, wantE := want.next(b); n != wantN || e != wantE {
				t.Fatalf("size %d: Next(%d): %d, %d, want %d, %d", size, b, n, e, wantN, wantE)
			}
			seen[e]++
		}
		wantPlaces(t, "against the model", m, size, want.places()...)
	}
	for _, e := range []api.Errno{api.OK, api.ErrRange, api.ErrNone} {
		if seen[e] < 1000 {
			t.Errorf("error %d was answered %d times: too seldom to tell", e, seen[e])
		}
	}
}
