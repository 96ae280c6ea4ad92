package num_test

import (
	"math"
	"math/big"
	"math/rand"
	"slices"
	"testing"

	"daybook/num"
)

const (
	top = math.MaxInt64
	low = math.MinInt64
)

// samples is numbers around nought, around the powers of two and at both ends.
func samples() []int64 {
	xs := []int64{0, 3, -3, 7, -7, 10000, -10000, top, top - 1, top - 2, low, low + 1, low + 2}
	for _, i := range []int{0, 1, 2, 15, 30, 31, 32, 33, 47, 61, 62} {
		p := int64(1) << i
		xs = append(xs, p-1, p, p+1, -p-1, -p, 1-p)
	}
	r := rand.New(rand.NewSource(4))
	for range 20 {
		xs = append(xs, int64(r.Uint64())>>r.Intn(64))
	}
	return xs
}

// exact is w as a call must answer it.
func exact(w *big.Int) (int64, bool) {
	if !w.IsInt64() {
		return 0, false
	}
	return w.Int64(), true
}

func wide(x int64) *big.Int { return big.NewInt(x) }

// same fails the test where a call's answer is not the one that is wanted.
func same(t *testing.T, want int64, fine bool, got int64, ok bool, call string, args ...int64) {
	t.Helper()
	if got != want || ok != fine {
		t.Errorf("%s%v = %d, %v, want %d, %v", call, args, got, ok, want, fine)
	}
}

func TestP4_1Examples(t *testing.T) {
	x, ok := num.Add(top, 1)
	same(t, 0, false, x, ok, "Add", top, 1)
	x, ok = num.Add(top-1, 1)
	same(t, top, true, x, ok, "Add", top-1, 1)
	x, ok = num.Add(low, -1)
	same(t, 0, false, x, ok, "Add", low, -1)
	x, ok = num.Add(low, top)
	same(t, -1, true, x, ok, "Add", low, top)
	x, ok = num.Sub(0, low)
	same(t, 0, false, x, ok, "Sub", 0, low)
	x, ok = num.Sub(-1, low)
	same(t, top, true, x, ok, "Sub", -1, low)
	x, ok = num.Sub(low, 1)
	same(t, 0, false, x, ok, "Sub", low, 1)
	x, ok = num.Mul(-1<<32, 1<<31)
	same(t, low, true, x, ok, "Mul", -1<<32, 1<<31)
	x, ok = num.Mul(1<<32, 1<<31)
	same(t, 0, false, x, ok, "Mul", 1<<32, 1<<31)
	x, ok = num.Mul(low, -1)
	same(t, 0, false, x, ok, "Mul", low, -1)
	x, ok = num.Mul(low, low)
	same(t, 0, false, x, ok, "Mul", low, low)
	x, ok = num.Mul(1<<32, 1<<32) // its lower half alone is nought
	same(t, 0, false, x, ok, "Mul", 1<<32, 1<<32)
}

func TestP4_1AddSubMulOfAll(t *testing.T) {
	xs := samples()
	for _, a := range xs {
		for _, b := range xs {
			want, fine := exact(new(big.Int).Add(wide(a), wide(b)))
			x, ok := num.Add(a, b)
			same(t, want, fine, x, ok, "Add", a, b)
			want, fine = exact(new(big.Int).Sub(wide(a), wide(b)))
			x, ok = num.Sub(a, b)
			same(t, want, fine, x, ok, "Sub", a, b)
			want, fine = exact(new(big.Int).Mul(wide(a), wide(b)))
			x, ok = num.Mul(a, b)
			same(t, want, fine, x, ok, "Mul", a, b)
		}
	}
}

func TestP4_2Examples(t *testing.T) {
	for _, x := range []struct {
		a, b, d int64
		want    int64
		fine    bool
	}{
		{7, 3, 2, 10, true},
		{-7, 3, 2, -10, true},
		{7, -3, 2, -10, true},
		{7, 3, -2, -10, true},
		{-7, -3, -2, -10, true},
		{-7, -3, 2, 10, true},
		{1 << 62, 4, 8, 1 << 61, true},
		{1, 1, 0, 0, false},
		{0, 0, 0, 0, false},
		{low, low, 0, 0, false},
		{low, 1, -1, 0, false},
		{low, 1, 1, low, true},
		{low, -1, -1, low, true},
		{low, low, low, low, true},
		{low, top, top, low, true},
		{top, top, top, top, true},
		{low, low, top, 0, false},
		{low, low, 1, 0, false},
		{top, top, 1, 0, false},
		{1 << 62, 4, 2, 0, false},
		{1, -1, 2, 0, true},
		{1, 1, low, 0, true},
		{low, 1, low, 1, true},
		{0, low, -1, 0, true},
	} {
		got, ok := num.MulDiv(x.a, x.b, x.d)
		same(t, x.want, x.fine, got, ok, "MulDiv", x.a, x.b, x.d)
	}
}

func TestP4_2MulDivOfAll(t *testing.T) {
	xs := samples()
	for _, a := range xs {
		for _, b := range xs {
			product := new(big.Int).Mul(wide(a), wide(b))
			for _, d := range xs {
				want, fine := int64(0), false
				if d != 0 {
					want, fine = exact(new(big.Int).Quo(product, wide(d)))
				}
				got, ok := num.MulDiv(a, b, d)
				same(t, want, fine, got, ok, "MulDiv", a, b, d)
			}
		}
	}
}

func TestP4_3Examples(t *testing.T) {
	for _, x := range []struct {
		xs   []int64
		want int64
		fine bool
	}{
		{nil, 0, true},
		{[]int64{}, 0, true},
		{[]int64{low}, low, true},
		{[]int64{top}, top, true},
		{[]int64{top, 1, -2}, top - 1, true},
		{[]int64{low, -1, 1}, low, true},
		{[]int64{top, top, top, low, low, low}, -3, true},
		{[]int64{low, low, low, low}, 0, false},
		{[]int64{low, low}, 0, false},
		{[]int64{top, 1}, 0, false},
		{[]int64{top, top, 2}, 0, false}, // its lower half alone is nought
		{[]int64{low, -1}, 0, false},
		{[]int64{-1, -1, -1}, -3, true},
	} {
		got, ok := num.Sum(x.xs...)
		same(t, x.want, x.fine, got, ok, "Sum", x.xs...)
	}
}

func TestP4_3SumOfMany(t *testing.T) {
	r := rand.New(rand.NewSource(5))
	pool := samples()
	for range 3000 {
		xs := make([]int64, r.Intn(12))
		sum := new(big.Int)
		for i := range xs {
			xs[i] = pool[r.Intn(len(pool))]
			sum.Add(sum, wide(xs[i]))
		}
		kept := slices.Clone(xs)
		want, fine := exact(sum)
		got, ok := num.Sum(xs...)
		same(t, want, fine, got, ok, "Sum", xs...)
		if !slices.Equal(xs, kept) {
			t.Fatalf("Sum has changed %v to %v", kept, xs)
		}
	}
	long := slices.Repeat([]int64{top, top, low, low, 1, 1}, 20000)
	got, ok := num.Sum(long...)
	same(t, 0, true, got, ok, "Sum of a long list")
	got, ok = num.Sum(append(long, top, top, top)...)
	same(t, 0, false, got, ok, "Sum of a long list that does not fit")
}
