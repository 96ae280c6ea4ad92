package num

import (
	"cmp"
	"math/bits"
	"slices"
)

const maxWeights = 64

// Share deals a total out by weights: the whole parts first, what is left to those with the greatest rests.
func Share(total int64, weights []int64) ([]int64, bool) {
	if total < 0 || len(weights) > maxWeights {
		return nil, false
	}
	whole, ok := weigh(weights)
	if !ok {
		return nil, false
	}
	parts := make([]int64, len(weights))
	rests := make([]uint64, len(weights))
	left := total
	for i, w := range weights {
		hi, lo := bits.Mul64(uint64(total), uint64(w))
		part, rest := bits.Div64(hi, lo, uint64(whole)) // hi is below whole, as no weight is above it
		parts[i], rests[i] = int64(part), rest
		left -= parts[i]
	}
	for _, i := range byRest(rests)[:left] { // left is the rests' sum over whole: fewer than there are rests above nought
		parts[i]++
	}
	return parts, true
}

// weigh is the sum of the weights, if something can be dealt out by them.
func weigh(weights []int64) (int64, bool) {
	for _, w := range weights {
		if w < 0 {
			return 0, false
		}
	}
	sum, ok := Sum(weights...)
	return sum, ok && sum > 0
}

// byRest is the places of the rests, the greatest first, of equal ones the first.
func byRest(rests []uint64) []int {
	places := make([]int, len(rests))
	for i := range places {
		places[i] = i
	}
	slices.SortStableFunc(places, func(i, j int) int { return cmp.Compare(rests[j], rests[i]) })
	return places
}
