package gauge_test

import (
	"math"
	"math/big"
	"math/rand"
	"slices"
	"testing"

	"besom/api"
	"besom/gauge"
)

// place: a measure with what the chapter says of it, written out apart from the program.
type place struct {
	x     float64
	class int
	key   uint64
}

var noughtSigned = math.Copysign(0, -1)

// rising: measures of all classes but NaNs', each ahead of the next.
var rising = []place{
	{math.Inf(-1), 1, 0x000fffffffffffff},
	{-math.MaxFloat64, 2, 0x0010000000000000},
	{math.Nextafter(-math.MaxFloat64, 0), 2, 0x0010000000000001},
	{-2, 2, 0x3fffffffffffffff},
	{math.Nextafter(-1, -2), 2, 0x400ffffffffffffe},
	{-1, 2, 0x400fffffffffffff},
	{-0x1p-1022, 2, 0x7fefffffffffffff},                    // the least that is normal
	{math.Nextafter(-0x1p-1022, 0), 2, 0x7ff0000000000000}, // the greatest that isn't
	{-math.SmallestNonzeroFloat64, 2, 0x7ffffffffffffffe},
	{noughtSigned, 3, 0x7fffffffffffffff},
	{0, 4, 0x8000000000000000},
	{math.SmallestNonzeroFloat64, 5, 0x8000000000000001},
	{math.Nextafter(0x1p-1022, 0), 5, 0x800fffffffffffff},
	{0x1p-1022, 5, 0x8010000000000000},
	{1, 5, 0xbff0000000000000},
	{math.Nextafter(1, 2), 5, 0xbff0000000000001},
	{2, 5, 0xc000000000000000},
	{math.Nextafter(math.MaxFloat64, 0), 5, 0xffeffffffffffffe},
	{math.MaxFloat64, 5, 0xffefffffffffffff},
	{math.Inf(1), 6, 0xfff0000000000000},
}

// nans: of both signs, quiet and not, with the bits at both ends.
func nans() []float64 {
	var l []float64
	for _, bits := range []uint64{
		0x7ff8000000000000, 0x7ff8000000000001, 0x7ff0000000000001, 0x7fffffffffffffff,
		0xfff8000000000000, 0xfff8000000000001, 0xfff0000000000001, 0xffffffffffffffff,
	} {
		l = append(l, math.Float64frombits(bits))
	}
	return append(l, math.NaN(), gauge.Share(0, 0))
}

// places: the NaNs, all alike, and behind them the rising ones.
func places() []place {
	var l []place
	for _, x := range nans() {
		l = append(l, place{x, 0, 0})
	}
	return append(l, rising...)
}

func sign(n int) int { return min(1, max(-1, n)) }

// alikeBits: the same measure to the bit; NaNs are one.
func alikeBits(a, b float64) bool {
	return a != a && b != b || math.Float64bits(a) == math.Float64bits(b)
}

// P2.1: Class, Key.
func TestClassAndKey(t *testing.T) {
	for _, p := range places() {
		if c := gauge.Class(p.x); c != p.class {
			t.Errorf("Class(%v): %d, want %d", p.x, c, p.class)
		}
		if k := gauge.Key(p.x); k != p.key {
			t.Errorf("Key(%v): %#x, want %#x", p.x, k, p.key)
		}
	}
}

// P2.1: Order, Same; P2.2: the keys' order is the same.
func TestOrder(t *testing.T) {
	first := len(nans()) - 1 // all NaNs stand where the last of them does
	l := places()
	for i, p := range l {
		for k, q := range l {
			want := sign(max(i, first) - max(k, first))
			if c := gauge.Order(p.x, q.x); c != want {
				t.Errorf("Order(%v, %v): %d, want %d", p.x, q.x, c, want)
			}
			if s := gauge.Same(p.x, q.x); s != (want == 0) {
				t.Errorf("Same(%v, %v): %v", p.x, q.x, s)
			}
			if c := keysOrder(p.x, q.x); c != want {
				t.Errorf("keys of %v, %v: %d, want %d", p.x, q.x, c, want)
			}
		}
	}
}

func keysOrder(a, b float64) int {
	switch k, l := gauge.Key(a), gauge.Key(b); {
	case k < l:
		return -1
	case k > l:
		return 1
	}
	return 0
}

// modelOrder: by big numbers, apart from the program.
func modelOrder(a, b float64) int {
	switch {
	case a != a && b != b:
		return 0
	case a != a:
		return -1
	case b != b:
		return 1
	case a == 0 && b == 0:
		return sign(int(math.Float64bits(b)>>63) - int(math.Float64bits(a)>>63))
	}
	return big.NewFloat(a).Cmp(big.NewFloat(b))
}

// P2.1, P2.2: all bits that there are, some of them, and neighbours.
func TestOrderOfMany(t *testing.T) {
	r := rand.New(rand.NewSource(2))
	for range 20000 {
		a := math.Float64frombits(r.Uint64())
		for _, b := range []float64{a, -a, math.Float64frombits(r.Uint64()), math.Float64frombits(math.Float64bits(a) + 1), math.Float64frombits(math.Float64bits(a) ^ 1<<r.Intn(64))} {
			want := modelOrder(a, b)
			if gauge.Order(a, b) != want || gauge.Order(b, a) != -want || keysOrder(a, b) != want || gauge.Same(a, b) != (want == 0) {
				t.Fatalf("%v, %v: Order %d, keys %d, want %d", a, b, gauge.Order(a, b), keysOrder(a, b), want)
			}
		}
		x, e := gauge.Of(gauge.Key(a))
		if e != api.OK || !alikeBits(x, a) {
			t.Fatalf("Of(Key(%v)): %v, %d", a, x, e)
		}
	}
}

// P2.1: Of a key that a measure has.
func TestOf(t *testing.T) {
	for _, p := range places() {
		if x, e := gauge.Of(p.key); e != api.OK || !alikeBits(x, p.x) {
			t.Errorf("Of(%#x): %v, %d, want %v", p.key, x, e, p.x)
		}
	}
}

// P2.1: Of a key that none has: between that of NaNs and the infinities', and above.
func TestOfNone(t *testing.T) {
	const below, above = uint64(0x000fffffffffffff), uint64(0xfff0000000000000)
	keys := []uint64{1, 2, 3, 1 << 51, 0x0007ffffffffffff, below - 1, above + 1, 0xfff7ffffffffffff, 0xfff8000000000000, 0xfff8000000000001, math.MaxUint64 - 1, math.MaxUint64}
	r := rand.New(rand.NewSource(3))
	for range 1000 {
		keys = append(keys, 1+r.Uint64()%(below-1), above+1+r.Uint64()%(math.MaxUint64-above))
	}
	for _, k := range keys {
		if x, e := gauge.Of(k); e != api.ErrRange || math.Float64bits(x) != 0 {
			t.Errorf("Of(%#x): %v, %d, want 0, %d", k, x, e, api.ErrRange)
		}
	}
	for range 1000 {
		k := below + r.Uint64()%(above-below+1)
		if x, e := gauge.Of(k); e != api.OK || gauge.Key(x) != k {
			t.Errorf("Of(%#x): %v, %d", k, x, e)
		}
	}
}

// P2.1: Least, Most.
func TestLeastAndMost(t *testing.T) {
	nan, below, above := math.NaN(), math.Inf(-1), math.Inf(1)
	for _, c := range []struct {
		l           []float64
		least, most float64
	}{
		{nil, nan, nan},
		{[]float64{}, nan, nan},
		{[]float64{nan}, nan, nan},
		{nans(), nan, nan},
		{[]float64{3}, 3, 3},
		{[]float64{-3}, -3, -3},
		{[]float64{2, 1, 3}, 1, 3},
		{[]float64{-2, -1, -3}, -3, -1},
		{[]float64{nan, 2, nan, 1, 3, nan}, 1, 3},
		{[]float64{nan, below}, below, below},
		{[]float64{below, nan}, below, below},
		{[]float64{nan, above}, above, above},
		{[]float64{above, nan}, above, above},
		{[]float64{above, below}, below, above},
		{[]float64{above, math.MaxFloat64}, math.MaxFloat64, above},
		{[]float64{-math.MaxFloat64, below}, below, -math.MaxFloat64},
		{[]float64{0, noughtSigned}, noughtSigned, 0},
		{[]float64{noughtSigned, 0}, noughtSigned, 0},
		{[]float64{0, nan, 0}, 0, 0},
		{[]float64{noughtSigned, nan, noughtSigned}, noughtSigned, noughtSigned},
		{[]float64{noughtSigned, math.SmallestNonzeroFloat64}, noughtSigned, math.SmallestNonzeroFloat64},
		{[]float64{0, -math.SmallestNonzeroFloat64}, -math.SmallestNonzeroFloat64, 0},
	} {
		if x := gauge.Least(c.l...); !alikeBits(x, c.least) {
			t.Errorf("Least(%v): %v, want %v", c.l, x, c.least)
		}
		if x := gauge.Most(c.l...); !alikeBits(x, c.most) {
			t.Errorf("Most(%v): %v, want %v", c.l, x, c.most)
		}
	}
}

// P2.1: Least, Most of the places in whatever order, and R6: the row is left as it is, spare room included.
func TestLeastAndMostOfMany(t *testing.T) {
	all := places()
	r := rand.New(rand.NewSource(4))
	for range 2000 {
		row := make([]float64, 0, 8)
		least, most := len(all), -1
		for range r.Intn(8) {
			i := r.Intn(len(all))
			row = append(row, all[i].x)
			if all[i].class != 0 {
				least, most = min(least, i), max(most, i)
			}
		}
		wantLeast, wantMost := math.NaN(), math.NaN()
		if most >= 0 {
			wantLeast, wantMost = all[least].x, all[most].x
		}
		kept := slices.Clone(row[:cap(row)])
		if x := gauge.Least(row...); !alikeBits(x, wantLeast) {
			t.Fatalf("Least(%v): %v, want %v", row, x, wantLeast)
		}
		if x := gauge.Most(row...); !alikeBits(x, wantMost) {
			t.Fatalf("Most(%v): %v, want %v", row, x, wantMost)
		}
		if !slices.EqualFunc(row[:cap(row)], kept, alikeBits) {
			t.Fatalf("the row %v was changed", kept)
		}
	}
}

// P2.1: Share, of numbers that a float64 can't tell too.
func TestShare(t *testing.T) {
	for _, c := range []struct {
		a, b int
		want float64
	}{
		{1, 4, 0.25}, {-1, 4, -0.25}, {1, -4, -0.25}, {-1, -4, 0.25},
		{1, 3, 1.0 / 3}, {7, 7, 1}, {5, 2, 2.5}, {4, 1, 4},
		{0, 5, 0}, {0, -5, noughtSigned},
		{3, 0, math.Inf(1)}, {-3, 0, math.Inf(-1)}, {0, 0, math.NaN()},
		{math.MaxInt, 0, math.Inf(1)}, {math.MinInt, 0, math.Inf(-1)},
		{math.MaxInt, 1, 0x1p63}, {math.MinInt, 1, -0x1p63}, {math.MinInt, -1, 0x1p63},
		{math.MaxInt, math.MinInt, -1}, {math.MinInt, math.MinInt, 1}, {1, math.MinInt, -0x1p-63},
		{1<<53 + 1, 1, 0x1p53}, {1<<53 + 1, 1 << 53, 1},
	} {
		if x := gauge.Share(c.a, c.b); !alikeBits(x, c.want) {
			t.Errorf("Share(%d, %d): %v, want %v", c.a, c.b, x, c.want)
		}
	}
	if c := gauge.Class(gauge.Share(0, 0)); c != 0 {
		t.Errorf("Class(Share(0, 0)): %d, want 0", c)
	}
}
