package task_test

import (
	"math"
	"math/rand"
	"slices"
	"testing"

	"besom/api"
	"besom/task"
)

// The greatest address, the greatest From and To, and the greatest task's word.
const (
	lastAt   = 65535
	lastWord = 4095
	greatest = 1 << 40
)

func of(at, from, to int) task.Task { return task.Task{At: at, From: from, To: to} }

func wantPack(t *testing.T, x task.Task, word int) {
	t.Helper()
	if w, e := task.Pack(x); w != word || e != api.OK {
		t.Errorf("Pack(%v): %d, %d, want %d", x, w, e, word)
	}
}

func wantUnpack(t *testing.T, word int, x task.Task) {
	t.Helper()
	if y, e := task.Unpack(word); y != x || e != api.OK {
		t.Errorf("Unpack(%d): %v, %d, want %v", word, y, e, x)
	}
}

func wantNoTask(t *testing.T, x task.Task) {
	t.Helper()
	if w, e := task.Pack(x); w != 0 || e != api.ErrRange {
		t.Errorf("Pack(%v): %d, %d, want 0, ErrRange", x, w, e)
	}
}

func wantNoWord(t *testing.T, word int) {
	t.Helper()
	if x, e := task.Unpack(word); x != (task.Task{}) || e != api.ErrHead {
		t.Errorf("Unpack(%d): %v, %d, want a zero task, ErrHead", word, x, e)
	}
}

func wantSplit(t *testing.T, x task.Task, most int, parts ...task.Task) {
	t.Helper()
	if got := task.Split(x, most); !slices.Equal(got, parts) {
		t.Errorf("Split(%v, %d): %v, want %v", x, most, got, parts)
	}
}

// P7.1: a task's word is 1 and At and 65,536 times From and 268,435,456 times To; read, it is that task.
func TestWords(t *testing.T) {
	for _, x := range []struct {
		task task.Task
		word int
	}{
		{of(0, 0, 0), 1},
		{of(1, 0, 0), 2},
		{of(lastAt, 0, 0), 65536},
		{of(0, 0, 1), 268435457},
		{of(0, 1, 1), 268500993},
		{of(7, 2, 9), 2416050184},
		{of(1000, 30, 400), 107376149481},
		{of(0, 0, lastWord), 1099243192321},
		{of(0, lastWord, lastWord), 1099511562241},
		{of(lastAt, 0, lastWord), 1099243257856},
		{of(lastAt, lastWord, lastWord), greatest},
		{of(lastAt, lastWord-1, lastWord), greatest - 65536},
		{of(lastAt-1, lastWord, lastWord), greatest - 1},
		{of(lastAt, lastWord-1, lastWord-1), greatest - 65536 - 268435456},
	} {
		wantPack(t, x.task, x.word)
		wantUnpack(t, x.word, x.task)
	}
}

// P7.1: what may not be is no task, whichever of its numbers is wrong, and by how much.
func TestWrongTasks(t *testing.T) {
	below := []int{-1, -2, -65536, -268435456, math.MinInt}
	for _, n := range below {
		wantNoTask(t, of(n, 0, 0))
		wantNoTask(t, of(n, 2, 9))
		wantNoTask(t, of(0, n, 0))
		wantNoTask(t, of(0, n, n))
		wantNoTask(t, of(7, n, 9))
		wantNoTask(t, of(7, 0, n))
		wantNoTask(t, of(n, n, n))
	}
	for _, n := range []int{lastAt + 1, lastAt + 2, 1 << 28, 1 << 40, math.MaxInt} {
		wantNoTask(t, of(n, 0, 0))
		wantNoTask(t, of(n, 2, 9))
		wantNoTask(t, of(n, lastWord, lastWord))
	}
	for _, n := range []int{lastWord + 1, lastWord + 2, 65536, 1 << 28, 1 << 40, math.MaxInt} {
		wantNoTask(t, of(0, 0, n))
		wantNoTask(t, of(0, n, n))
		wantNoTask(t, of(lastAt, lastWord, n))
		wantNoTask(t, of(0, n, 0))
		wantNoTask(t, of(0, n, lastWord))
	}
	for _, x := range [][2]int{{1, 0}, {5, 4}, {9, 2}, {lastWord, 0}, {lastWord, lastWord - 1}} {
		wantNoTask(t, of(0, x[0], x[1]))
		wantNoTask(t, of(lastAt, x[0], x[1]))
	}
}

// P7.1: a word is no task's from 0 down, above the greatest, and where From would be above To.
func TestWrongWords(t *testing.T) {
	for _, w := range []int{0, -1, -2, -65535, -65536, -1 << 28, -1 << 40, -1<<40 + 1, math.MinInt, math.MinInt + 1} {
		wantNoWord(t, w)
	}
	for _, w := range []int{greatest + 1, greatest + 2, greatest + 65536, greatest + 1<<28, 2 * greatest, 1 << 62, math.MaxInt - 1, math.MaxInt} {
		wantNoWord(t, w)
	}
	for _, x := range [][2]int{{1, 0}, {lastWord, 0}, {2, 1}, {lastWord, 1}, {2049, 2048}, {lastWord, lastWord - 1}} {
		for _, at := range []int{0, 1, lastAt} {
			wantNoWord(t, 1+at+65536*x[0]+268435456*x[1])
		}
	}
}

// P7.2: of every From and To, at some addresses, the word is above 0 and read as the task; words rise with To, then From, then At, so that no two tasks have one.
func TestEveryTask(t *testing.T) {
	last, many := 0, 0
	for to := 0; to <= lastWord; to++ {
		for from := 0; from <= to; from++ {
			for _, at := range []int{0, (from*31 + to*17) % lastAt, lastAt} {
				x := of(at, from, to)
				w, e := task.Pack(x)
				// A middle address may be 0, as the one ahead of it is.
				if e != api.OK || w < 1 || w < last || w == last && at != 0 {
					t.Fatalf("Pack(%v): %d, %d, behind %d", x, w, e, last)
				}
				if y, e := task.Unpack(w); y != x || e != api.OK {
					t.Fatalf("Unpack(%d): %v, %d, want %v", w, y, e, x)
				}
				last = w
				many++
			}
		}
	}
	if many != 3*4096*4097/2 || last != greatest {
		t.Errorf("%d tasks, up to %d", many, last)
	}
}

// P7.2: at all addresses too.
func TestEveryAddress(t *testing.T) {
	for _, x := range [][2]int{{0, 0}, {0, 1}, {3, 7}, {0, lastWord}, {lastWord, lastWord}} {
		first, _ := task.Pack(of(0, x[0], x[1]))
		for at := range lastAt + 1 {
			wantPack(t, of(at, x[0], x[1]), first+at)
			wantUnpack(t, first+at, of(at, x[0], x[1]))
		}
	}
}

// just: whether a word is read as the one task whose word it is, or as none; and whether it was read.
func just(word int) (right, read bool) {
	x, e := task.Unpack(word)
	if e != api.OK {
		return e == api.ErrHead && x == task.Task{}, false
	}
	w, e := task.Pack(x)
	return w == word && e == api.OK, true
}

// P7.2: whatever is read has just that word, wherever among the integers it is looked for. Among the blocks of 65,536 words one is read if its From isn't above its To.
func TestWhateverIsRead(t *testing.T) {
	for block := range 4096 * 4096 {
		word := 1 + 65536*block + block%65536
		if right, read := just(word); !right || read != (block%4096 <= block/4096) {
			t.Fatalf("Unpack(%d): right is %t, read is %t", word, right, read)
		}
	}
	r := rand.New(rand.NewSource(7))
	for range 1000000 {
		for _, word := range []int{int(r.Uint64()), 1 + r.Intn(2*greatest)} {
			if right, read := just(word); !right || read && (word < 1 || word > greatest) {
				t.Fatalf("Unpack(%d): right is %t, read is %t", word, right, read)
			}
		}
	}
}

// P7.1: To less From.
func TestLen(t *testing.T) {
	for _, x := range []struct {
		task task.Task
		want int
	}{
		{of(0, 0, 0), 0},
		{of(5, 9, 9), 0},
		{of(lastAt, lastWord, lastWord), 0},
		{of(3, 1, 8), 7},
		{of(3, 0, 1), 1},
		{of(0, 0, lastWord), 4095},
		{of(0, lastWord-1, lastWord), 1},
		{of(0, 5, 2), -3},
		{of(-1, -4, 4100), 4104},
	} {
		if n := x.task.Len(); n != x.want {
			t.Errorf("%v.Len(): %d, want %d", x.task, n, x.want)
		}
	}
}

// P7.1: parts stand in order; the last one has as many words as are left.
func TestSplit(t *testing.T) {
	wantSplit(t, of(3, 1, 8), 3, of(3, 1, 4), of(3, 4, 7), of(3, 7, 8))   // fewer in the last one
	wantSplit(t, of(3, 1, 10), 3, of(3, 1, 4), of(3, 4, 7), of(3, 7, 10)) // as many
	wantSplit(t, of(3, 1, 9), 3, of(3, 1, 4), of(3, 4, 7), of(3, 7, 9))
	wantSplit(t, of(9, 0, 6), 2, of(9, 0, 2), of(9, 2, 4), of(9, 4, 6))
	wantSplit(t, of(lastAt, lastWord-3, lastWord), 2, of(lastAt, lastWord-3, lastWord-1), of(lastAt, lastWord-1, lastWord))
	wantSplit(t, of(4, 2, 5), 1, of(4, 2, 3), of(4, 3, 4), of(4, 4, 5))
	wantSplit(t, of(4, 2, 3), 1, of(4, 2, 3))
}

// P7.1: most of one less than there are, of as many, and of more, up to the greatest integer.
func TestSplitAtMost(t *testing.T) {
	for _, x := range []task.Task{of(3, 1, 8), of(0, 0, lastWord), of(lastAt, 1, lastWord), of(8, 4000, 4002)} {
		wantSplit(t, x, x.Len()-1, of(x.At, x.From, x.To-1), of(x.At, x.To-1, x.To))
		for _, most := range []int{x.Len(), x.Len() + 1, x.Len() + 1000, lastWord, lastWord + 1, math.MaxInt - 1, math.MaxInt} {
			wantSplit(t, x, most, x)
		}
	}
}

// P7.1: most below 1 is taken as 1.
func TestSplitBelowOne(t *testing.T) {
	for _, most := range []int{1, 0, -1, -4, -1 << 40, math.MinInt} {
		wantSplit(t, of(0, 0, 2), most, of(0, 0, 1), of(0, 1, 2))
		wantSplit(t, of(6, 5, 8), most, of(6, 5, 6), of(6, 6, 7), of(6, 7, 8))
		if n := len(task.Split(of(0, 0, lastWord), most)); n != lastWord {
			t.Errorf("Split into parts of %d: %d parts", most, n)
		}
	}
}

// P7.1: a task of no words has one part, itself.
func TestSplitNoWords(t *testing.T) {
	for _, x := range []task.Task{of(0, 0, 0), of(3, 0, 0), of(3, 7, 7), of(lastAt, lastWord, lastWord)} {
		for _, most := range []int{math.MinInt, -1, 0, 1, 2, lastWord, math.MaxInt} {
			wantSplit(t, x, most, x)
		}
	}
}

// P7: a split of what may not be ends, and doesn't panic, however many words it would have.
func TestSplitWrong(t *testing.T) {
	for _, x := range []task.Task{
		of(-1, 0, 5), of(lastAt+1, 0, 5), of(0, 5, 4), of(0, -1, 0), of(0, 0, lastWord+1),
		of(0, 0, math.MaxInt), of(0, math.MinInt, 0), of(0, math.MinInt, math.MaxInt), of(0, math.MaxInt, math.MinInt),
	} {
		for _, most := range []int{math.MinInt, 0, 1, 3, math.MaxInt} {
			wantSplit(t, x, most)
		}
	}
}

// P7.1: of many lengths and mosts, the parts are those that are found word by word; each may be packed.
func TestSplitEvery(t *testing.T) {
	lengths := []int{lastWord - 1, lastWord}
	for n := range 70 {
		lengths = append(lengths, n)
	}
	for _, n := range lengths {
		for most := -2; most < 80; most++ {
			x := of(n*7, lastWord-n, lastWord)
			parts := plainParts(x, most)
			wantSplit(t, x, most, parts...)
			for _, p := range parts {
				wantPack(t, p, 1+p.At+65536*p.From+268435456*p.To)
			}
		}
	}
}

// plainParts: word by word; a word begins a part if it is so many words behind the first one.
func plainParts(x task.Task, most int) []task.Task {
	parts := []task.Task{of(x.At, x.From, x.From)}
	if most < 1 {
		most = 1
	}
	for at := x.From; at < x.To; at++ {
		if at > x.From && (at-x.From)%most == 0 {
			parts = append(parts, of(x.At, at, at))
		}
		parts[len(parts)-1].To++
	}
	return parts
}

// R6: an answer's list is new memory, spare room too.
func TestSplitNew(t *testing.T) {
	x := of(3, 1, 12)
	a, b := task.Split(x, 3), task.Split(x, 3)
	want := slices.Clone(b)
	for i := range a[:cap(a)] {
		a[:cap(a)][i] = of(9, 9, 9)
	}
	if !slices.Equal(b, want) {
		t.Errorf("two splits share memory: %v", b)
	}
	wantSplit(t, x, 3, want...)
}
