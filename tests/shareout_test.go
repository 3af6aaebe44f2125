package tests

import (
	"fmt"
	"math"
	"math/big"
	"math/rand"
	"slices"
	"testing"

	"loop.example/g01095/impl"
)

func TestShareOutExamples(t *testing.T) {
	for _, c := range []struct {
		total         int64
		weights, want []int64
	}{
		{10, []int64{1, 1, 1}, []int64{4, 3, 3}},
		{11, []int64{1, 1, 1}, []int64{4, 4, 3}},
		{7, []int64{5, 0, 3}, []int64{4, 0, 3}},
		{2, []int64{0, 1, 0, 1, 1, 0}, []int64{0, 1, 0, 1, 0, 0}},
		{0, []int64{2, 3}, []int64{0, 0}},
		{1, []int64{1, 2, 2}, []int64{0, 1, 0}},
		{3, []int64{1, 4, 2, 4}, []int64{0, 1, 1, 1}},
		{5, []int64{0, 0, 7}, []int64{0, 0, 5}},
		{impl.MaxTerm, []int64{impl.MaxTerm}, []int64{impl.MaxTerm}},
		{impl.MaxTerm, []int64{impl.MaxTerm, 0}, []int64{impl.MaxTerm, 0}},
		{impl.MaxTerm, []int64{0, 1}, []int64{0, impl.MaxTerm}},
		{impl.MaxTerm, []int64{1, 1, 1}, []int64{333333334, 333333333, 333333333}},
		{impl.MaxTerm, []int64{1, 999999999}, []int64{1, 999999999}},
		{999999999, []int64{1, 999999999}, []int64{1, 999999998}},
		{1, slices.Repeat([]int64{50000000}, 20), append([]int64{1}, make([]int64, 19)...)},
		{19, slices.Repeat([]int64{50000000}, 20), append(slices.Repeat([]int64{1}, 19), 0)},
	} {
		got, ok := impl.ShareOut(c.total, c.weights)
		expectList(t, fmt.Sprint("ShareOut ", c.total, " ", c.weights), got, ok, c.want, true)
	}
}

func TestShareOutInvalid(t *testing.T) {
	for _, c := range []struct {
		total   int64
		weights []int64
	}{
		{1, nil}, {1, []int64{}}, {0, nil}, {1, []int64{0}}, {7, []int64{0, 0}}, {0, []int64{0, 0}},
		{-1, []int64{1}}, {math.MinInt64, []int64{1}}, {impl.MaxTerm + 1, []int64{1}}, {math.MaxInt64, []int64{1}},
		{1, []int64{-1}}, {1, []int64{2, -1}}, {1, []int64{-1, 2}}, {1, []int64{math.MinInt64, 1}},
		{1, []int64{impl.MaxTerm + 1}}, {1, []int64{impl.MaxTerm, 1}}, {1, []int64{1, impl.MaxTerm}}, {1, []int64{500000000, 500000001}},
		{1, []int64{math.MaxInt64}}, {1, []int64{math.MaxInt64, math.MaxInt64, 3}}, {1, []int64{math.MaxInt64, math.MinInt64, 2}},
		{1, slices.Repeat([]int64{1}, 21)}, {1, slices.Repeat([]int64{impl.MaxTerm}, 20)},
	} {
		got, ok := impl.ShareOut(c.total, c.weights)
		expectList(t, fmt.Sprint("ShareOut ", c.total, " ", c.weights), got, ok, nil, false)
	}
}

// The parts add up to the total, each is within 1 of its exact share, and the greater remainders get more, earlier ones first.
func TestShareOutIsFair(t *testing.T) {
	random := rand.New(rand.NewSource(2))
	for range 3000 {
		most := []int64{1, 2, 5, 100, impl.MaxTerm / impl.MaxParts}[random.Intn(5)]
		weights := make([]int64, 1+random.Intn(impl.MaxParts))
		for i := range weights {
			weights[i] = random.Int63n(most + 1)
		}
		weights[random.Intn(len(weights))] = most
		total := random.Int63n([]int64{10, 100, impl.MaxTerm + 1}[random.Intn(3)])
		parts, ok := impl.ShareOut(total, weights)
		if !ok || len(parts) != len(weights) {
			t.Fatalf("ShareOut %d %v: %v, %v", total, weights, parts, ok)
		}
		checkShares(t, total, weights, parts)
	}
}

func checkShares(t *testing.T, total int64, weights, parts []int64) {
	t.Helper()
	sum, given := int64(0), int64(0)
	for i := range weights {
		sum += weights[i]
		given += parts[i]
	}
	if given != total {
		t.Errorf("ShareOut %d %v: %v add up to %d", total, weights, parts, given)
	}
	rests := make([]*big.Int, len(weights))
	extra := make([]bool, len(weights))
	for i, weight := range weights {
		product := new(big.Int).Mul(big.NewInt(total), big.NewInt(weight))
		low, rest := new(big.Int).DivMod(product, big.NewInt(sum), new(big.Int))
		rests[i], extra[i] = rest, parts[i] == low.Int64()+1
		if parts[i] != low.Int64() && (!extra[i] || rest.Sign() == 0) {
			t.Errorf("ShareOut %d %v: part %d of %v is not within 1 of its share", total, weights, i, parts)
		}
	}
	for i := range weights {
		for k := range weights {
			order := rests[i].Cmp(rests[k])
			if extra[k] && !extra[i] && (order > 0 || order == 0 && i < k) {
				t.Errorf("ShareOut %d %v: in %v, %d comes before %d", total, weights, parts, i, k)
			}
		}
	}
}
