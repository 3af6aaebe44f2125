package tests

import (
	"fmt"
	"math"
	"math/big"
	"math/rand"
	"slices"
	"testing"

	"loop.example/g01095/impl"
)

func TestSealNumbers(t *testing.T) {
	if impl.SealModulus != prime || impl.SealOrder != half || impl.ValueBase != 4 || impl.KeyBase != 9 || prime != 2*half+1 {
		t.Error("the numbers of seals are not those of the document")
	}
	if !big.NewInt(prime).ProbablyPrime(20) || !big.NewInt(half).ProbablyPrime(20) {
		t.Error("the modulus or its half is no prime")
	}
}

func TestIsSeal(t *testing.T) {
	check := func(n int64) {
		if got := impl.IsSeal(n); got != isSealIn(n) {
			t.Errorf("IsSeal of %d is %v", n, got)
		}
	}
	for n := int64(-2000); n <= 2000; n++ {
		check(n)
		check(prime + n)
		check(half + n)
		check(1<<32 + n)
	}
	random := rand.New(rand.NewSource(200))
	for range 5000 {
		check(random.Int63n(prime))
		check(random.Int63())
		// Of two numbers with the sum SealModulus, exactly one is a seal.
		seal := sealIn(randomExponent(random), randomExponent(random))
		if !impl.IsSeal(seal) || impl.IsSeal(prime-seal) || impl.IsSeal(seal-prime) || impl.IsSeal(seal+prime) {
			t.Errorf("IsSeal of %d, or of a number that differs by %d, is wrong", seal, prime)
		}
	}
	for _, n := range notSeals() {
		if impl.IsSeal(n) {
			t.Errorf("IsSeal of %d is true", n)
		}
	}
	for _, n := range append(greatestSeals(20), 1, 2, 3, 4, 6, 9, 16, 36) {
		if !impl.IsSeal(n) {
			t.Errorf("IsSeal of %d is false", n)
		}
	}
}

func TestSealOf(t *testing.T) {
	random := rand.New(rand.NewSource(201))
	values := append(edgeExponents(), randomList(random, 40, randomExponent)...)
	for _, value := range values {
		for _, key := range values {
			got, ok := impl.SealOf(value, key)
			expect(t, fmt.Sprint("SealOf ", value, key), got, ok, sealIn(value, key), true)
			if !impl.IsSeal(got) {
				t.Errorf("SealOf %d, %d is no seal", value, key)
			}
		}
	}
	for _, n := range notExponents() {
		for _, other := range append(notExponents(), edgeExponents()...) {
			got, ok := impl.SealOf(n, other)
			expect(t, fmt.Sprint("SealOf ", n, other), got, ok, 0, false)
			got, ok = impl.SealOf(other, n)
			expect(t, fmt.Sprint("SealOf ", other, n), got, ok, 0, false)
		}
	}
}

func TestSealOfCases(t *testing.T) {
	for _, c := range []struct{ value, key, want int64 }{
		{0, 0, 1}, {1, 0, 4}, {0, 1, 9}, {2, 1, 144}, {1, 1, 36}, {14, 0, 268435456}, {15, 0, 73741817}, {0, half - 1, 111111112}, {half - 1, 0, 250000002}, {half - 1, half - 1, 27777778},
	} {
		got, ok := impl.SealOf(c.value, c.key)
		expect(t, fmt.Sprint("SealOf ", c.value, c.key), got, ok, c.want, true)
	}
}

// randomSeal returns a seal, at times one of the greatest.
func randomSeal(random *rand.Rand) int64 {
	if random.Intn(3) == 0 {
		return greatestSeals(3)[random.Intn(3)]
	}
	return sealIn(randomExponent(random), randomExponent(random))
}

func TestJoinSeals(t *testing.T) {
	random := rand.New(rand.NewSource(202))
	for count := range impl.MaxMembers + 1 {
		for range 100 {
			seals, weights := randomList(random, count, randomSeal), randomList(random, count, randomWeight)
			want := int64(1)
			for i, seal := range seals {
				want = productIn(want, powerIn(seal, weights[i]))
			}
			got, ok := impl.JoinSeals(seals, weights)
			expect(t, fmt.Sprint("JoinSeals ", seals, weights), got, ok, want, true)
		}
	}
}

// Joined seals are the seal of the joined values and keys.
func TestJoinSealsAndKeys(t *testing.T) {
	random := rand.New(rand.NewSource(203))
	for count := range impl.MaxMembers + 1 {
		for range 50 {
			values, keys := randomList(random, count, randomExponent), randomList(random, count, randomExponent)
			weights := randomList(random, count, randomWeight)
			var seals []int64
			for i, value := range values {
				seal, _ := impl.SealOf(value, keys[i])
				seals = append(seals, seal)
			}
			value, isValue := impl.JoinKeys(values, weights)
			key, isKey := impl.JoinKeys(keys, weights)
			got, ok := impl.JoinSeals(seals, weights)
			want, isSeal := impl.SealOf(value, key)
			expect(t, fmt.Sprint("JoinSeals of the values and keys ", values, keys, weights), got, ok, want, isValue && isKey && isSeal)
		}
	}
}

func TestJoinSealsCases(t *testing.T) {
	great := greatestSeals(impl.MaxMembers + 1)
	ones := slices.Repeat([]int64{1}, 50)
	square := new(big.Int).Exp(big.NewInt(great[0]), big.NewInt(2), nil)
	for _, c := range []struct {
		name           string
		seals, weights []int64
		want           int64
	}{
		{"the document's powers", []int64{4, 9}, []int64{2, 1}, 144},
		{"no seals", nil, nil, 1},
		{"no seals, in empty lists", []int64{}, []int64{}, 1},
		{"a weight of 0", []int64{4}, []int64{0}, 1},
		{"weights of 0 and 1", []int64{4, 9}, []int64{0, 1}, 9},
		{"the weight MaxWeight", []int64{4}, []int64{1000}, powerIn(4, 1000)},
		{"the square of the greatest seal", great[:1], []int64{2}, modulo(square, prime)},
		{"the product of the greatest seals", great[:2], ones[:2], productIn(great[0], great[1])},
		{"MaxMembers of the greatest seals", great[:12], ones[:12], productIn(great[:12]...)},
		{"MaxMembers of the greatest seals with MaxWeight", great[:12], slices.Repeat([]int64{1000}, 12), powerIn(productIn(great[:12]...), 1000)},
		{"the same seal twice", []int64{4, 4}, []int64{1, 2}, 64},
		{"one seal more than MaxMembers", great, ones[:13], 0},
		{"one seal more than MaxMembers, with weights of 0", great, make([]int64, 13), 0},
		{"far more seals than MaxMembers", ones, ones, 0},
		{"no weights", []int64{4}, nil, 0},
		{"weights without seals", nil, []int64{0}, 0},
		{"one weight too few", []int64{4, 9}, []int64{1}, 0},
		{"one weight too many", []int64{4, 9}, []int64{1, 1, 0}, 0},
	} {
		got, ok := impl.JoinSeals(c.seals, c.weights)
		expect(t, c.name, got, ok, c.want, c.want > 0)
	}
	for _, n := range notSeals() {
		for _, seals := range [][]int64{{n}, {n, 4}, {4, n}, append(great[:11:11], n)} {
			for _, weight := range []int64{0, 1, 2, 1000} {
				got, ok := impl.JoinSeals(seals, slices.Repeat([]int64{weight}, len(seals)))
				expect(t, fmt.Sprint("JoinSeals ", seals, weight), got, ok, 0, false)
			}
		}
	}
	for _, weight := range notWeights() {
		for _, weights := range [][]int64{{weight, 1}, {1, weight}, {0, weight}} {
			got, ok := impl.JoinSeals([]int64{4, 1}, weights)
			expect(t, fmt.Sprint("JoinSeals with the weights ", weights), got, ok, 0, false)
		}
	}
}

func TestJoinKeys(t *testing.T) {
	random := rand.New(rand.NewSource(204))
	for count := range impl.MaxMembers + 1 {
		for range 200 {
			keys, weights := randomList(random, count, randomExponent), randomList(random, count, randomWeight)
			want := int64(0)
			for i, key := range keys {
				want = exponentIn([2]int64{want, 1}, [2]int64{key, weights[i]})
			}
			got, ok := impl.JoinKeys(keys, weights)
			expect(t, fmt.Sprint("JoinKeys ", keys, weights), got, ok, want, true)
		}
	}
}

func TestJoinKeysCases(t *testing.T) {
	great := slices.Repeat([]int64{half - 1}, 13)
	ones := slices.Repeat([]int64{1}, 50)
	for _, c := range []struct {
		name          string
		keys, weights []int64
		want          int64
	}{
		{"a sum of SealOrder", []int64{1, half - 1}, []int64{1, 1}, 0},
		{"a sum just below SealOrder", []int64{1, half - 2}, []int64{1, 1}, half - 1},
		{"no keys", nil, nil, 0},
		{"no keys, in empty lists", []int64{}, []int64{}, 0},
		{"a key of 0", []int64{0}, []int64{1000}, 0},
		{"a weight of 0", []int64{half - 1, 7}, []int64{0, 1}, 7},
		{"the greatest key with MaxWeight", great[:1], []int64{1000}, half - 1000},
		{"MaxMembers of the greatest keys with MaxWeight", great[:12], slices.Repeat([]int64{1000}, 12), half - 12000},
		{"one key more than MaxMembers", great, ones[:13], -1},
		{"one key more than MaxMembers, with weights of 0", great, make([]int64, 13), -1},
		{"far more keys than MaxMembers", ones, ones, -1},
		{"no weights", []int64{4}, nil, -1},
		{"weights without keys", nil, []int64{0}, -1},
		{"one weight too few", []int64{4, 9}, []int64{1}, -1},
		{"one weight too many", []int64{4, 9}, []int64{1, 1, 0}, -1},
	} {
		got, ok := impl.JoinKeys(c.keys, c.weights)
		expect(t, c.name, got, ok, max(c.want, 0), c.want >= 0)
	}
	for _, n := range notExponents() {
		for _, keys := range [][]int64{{n}, {n, 4}, {4, n}, append(great[:11:11], n)} {
			for _, weight := range []int64{0, 1, 1000} {
				got, ok := impl.JoinKeys(keys, slices.Repeat([]int64{weight}, len(keys)))
				expect(t, fmt.Sprint("JoinKeys ", keys, weight), got, ok, 0, false)
			}
		}
	}
	for _, weight := range notWeights() {
		for _, weights := range [][]int64{{weight, 1}, {1, weight}, {0, weight}} {
			got, ok := impl.JoinKeys([]int64{4, 0}, weights)
			expect(t, fmt.Sprint("JoinKeys with the weights ", weights), got, ok, 0, false)
		}
	}
}

func TestChallengeOf(t *testing.T) {
	random := rand.New(rand.NewSource(205))
	edges := []int64{0, 1, 2, half - 1, half, half + 1, prime - 2, prime - 1}
	for count := range 22 {
		for range 200 {
			list := randomList(random, count, func(random *rand.Rand) int64 { return edgeOr(random, edges, prime) })
			got, ok := impl.ChallengeOf(list)
			if count > 20 {
				expect(t, fmt.Sprint("ChallengeOf ", list), got, ok, 0, false)
				continue
			}
			expect(t, fmt.Sprint("ChallengeOf ", list), got, ok, challengeIn(list...), true)
		}
	}
}

func TestChallengeOfCases(t *testing.T) {
	for _, c := range []struct {
		name string
		list []int64
		want int64
	}{
		{"no integer", nil, 7},
		{"no integer, in an empty list", []int64{}, 7},
		{"an integer", []int64{5}, 7000027},
		{"0", []int64{0}, 7000022},
		{"three times 1", []int64{1, 1, 1}, 202610467},
		{"SealModulus less 1", []int64{prime - 1}, 7000022},
		{"a challenge of 0", []int64{half - 7000022}, 0},
		{"1 and 2", []int64{1, 2}, challengeIn(1, 2)},
		{"2 and 1", []int64{2, 1}, challengeIn(2, 1)},
		{"MaxChallenged integers", make([]int64, 20), challengeIn(make([]int64, 20)...)},
		{"MaxChallenged of the greatest integers", slices.Repeat([]int64{prime - 1}, 20), challengeIn(slices.Repeat([]int64{prime - 1}, 20)...)},
		{"one integer more than MaxChallenged", make([]int64, 21), -1},
		{"far more integers than MaxChallenged", make([]int64, 1000), -1},
		{"SealModulus", []int64{prime}, -1},
		{"SealModulus behind another integer", []int64{1, prime}, -1},
		{"SealModulus before another integer", []int64{prime, 1}, -1},
		{"SealModulus as the last one of MaxChallenged", append(make([]int64, 19), prime), -1},
		{"a negative integer", []int64{-1}, -1},
		{"a far integer", []int64{math.MaxInt64}, -1},
		{"a far negative integer", []int64{math.MinInt64}, -1},
		{"far integers with the sum 0", []int64{math.MinInt64, math.MinInt64}, -1},
	} {
		got, ok := impl.ChallengeOf(c.list)
		expect(t, c.name, got, ok, max(c.want, 0), c.want >= 0)
	}
	if challengeIn(1, 2) == challengeIn(2, 1) {
		t.Error("the order of two integers makes no difference")
	}
}
