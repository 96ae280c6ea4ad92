package num_test

import (
	"math/big"
	"math/rand"
	"slices"
	"testing"

	"daybook/num"
)

func TestP4_4Examples(t *testing.T) {
	ones := func(n int) []int64 { return slices.Repeat([]int64{1}, n) }
	for _, x := range []struct {
		name    string
		total   int64
		weights []int64
		parts   []int64
		ok      bool
	}{
		{"one left", 10, []int64{1, 1, 1}, []int64{4, 3, 3}, true},
		{"two left", 5, []int64{3, 0, 3, 2}, []int64{2, 0, 2, 1}, true},
		{"nothing", 0, []int64{1, 2}, []int64{0, 0}, true},
		{"one weight", top, []int64{1}, []int64{top}, true},
		{"the greatest weight", top, []int64{top}, []int64{top}, true},
		{"the greatest sum", top, []int64{top - 1, 1}, []int64{top - 1, 1}, true},
		{"the greatest rest behind", 1, []int64{1, 2}, []int64{0, 1}, true},
		{"equal rests", 2, []int64{1, 1, 1}, []int64{1, 1, 0}, true},
		{"equal rests behind a lesser", 2, []int64{1, 2, 2}, []int64{0, 1, 1}, true},
		{"nought gets none", 7, []int64{0, 1, 1, 0}, []int64{0, 4, 3, 0}, true},
		{"64 weights", 65, ones(64), append([]int64{2}, ones(63)...), true},
		{"63 left", 63, ones(64), append(ones(63), 0), true},
		{"64 noughts", 0, make([]int64, 64), nil, false},
		{"65 weights", 65, ones(65), nil, false},
		{"sum 0", 3, []int64{0, 0}, nil, false},
		{"sum 0 of a weight below 0", 3, []int64{1, -1}, nil, false},
		{"no weights", 3, nil, nil, false},
		{"no weights and nothing", 0, []int64{}, nil, false},
		{"total below 0", -1, []int64{1}, nil, false},
		{"the lowest total", low, []int64{1}, nil, false},
		{"a weight below 0", 1, []int64{2, -1}, nil, false},
		{"the lowest weight", 1, []int64{top, low}, nil, false},
		{"a sum above 64 bits", 1, []int64{top, 1}, nil, false},
		{"a sum that wraps to 1", 1, []int64{top, top, 3}, nil, false},
	} {
		parts, ok := num.Share(x.total, x.weights)
		if !slices.Equal(parts, x.parts) || ok != x.ok {
			t.Errorf("%s: Share(%d, %v) = %v, %v, want %v, %v", x.name, x.total, x.weights, parts, ok, x.parts, x.ok)
		}
	}
}

// dealt is Share by the letter: what is left goes, one by one, to the greatest rest that has got none of it.
func dealt(total int64, weights []int64) []int64 {
	sum := new(big.Int)
	for _, w := range weights {
		sum.Add(sum, wide(w))
	}
	parts := make([]int64, len(weights))
	rests := make([]*big.Int, len(weights))
	left := total
	for i, w := range weights {
		part, rest := new(big.Int).QuoRem(new(big.Int).Mul(wide(total), wide(w)), sum, new(big.Int))
		parts[i], rests[i] = part.Int64(), rest
		left -= parts[i]
	}
	for range left {
		best := 0
		for i := range rests {
			if rests[i].Cmp(rests[best]) > 0 {
				best = i
			}
		}
		parts[best]++
		rests[best] = wide(-1)
	}
	return parts
}

func TestP4_4ShareOfAll(t *testing.T) {
	r := rand.New(rand.NewSource(6))
	for round := range 4000 {
		weights := make([]int64, 1+r.Intn(64))
		shift := 7 + r.Intn(57) // at least 7: 64 of them fit
		for i := range weights {
			weights[i] = int64(r.Uint64() >> shift)
			if round%3 == 0 {
				weights[i] %= 4 // many equal rests
			}
		}
		weights[r.Intn(len(weights))]++
		total := int64(r.Uint64() >> (1 + r.Intn(63)))
		kept := slices.Clone(weights)
		parts, ok := num.Share(total, weights)
		if want := dealt(total, weights); !ok || !slices.Equal(parts, want) {
			t.Fatalf("Share(%d, %v) = %v, %v, want %v", total, weights, parts, ok, want)
		}
		if sum, ok := num.Sum(parts...); !ok || sum != total {
			t.Fatalf("Share(%d, %v): the parts add up to %d", total, weights, sum)
		}
		if !slices.Equal(weights, kept) {
			t.Fatalf("Share has changed %v to %v", kept, weights)
		}
	}
}

func TestP4_4PartsAreNewMemory(t *testing.T) {
	weights := append(make([]int64, 0, 8), 1, 2, 3)
	parts, _ := num.Share(6, weights)
	clear(parts[:cap(parts)])
	if again, ok := num.Share(6, weights); !ok || !slices.Equal(again, []int64{1, 2, 3}) || !slices.Equal(weights[:8], []int64{1, 2, 3, 0, 0, 0, 0, 0}) {
		t.Errorf("Share again: %v, %v, of %v", again, ok, weights[:8])
	}
}
