package tests

import (
	"fmt"
	"math"
	"math/rand"
	"slices"
	"testing"

	"loop.example/g01095/impl"
)

// randomRows returns so many rows of three seals.
func randomRows(random *rand.Rand, count int) [][]int64 {
	rows := make([][]int64, count)
	for i := range rows {
		rows[i] = randomList(random, 3, randomSeal)
	}
	return rows
}

// mixedIn mixes rows as the document describes it.
func mixedIn(rows [][]int64, order []int64, keys [][]int64) [][]int64 {
	var mixed [][]int64
	for i, from := range order {
		row := make([]int64, 3)
		for j, seal := range rows[from] {
			row[j] = productIn(seal, powerIn(9, keys[i][j]))
		}
		mixed = append(mixed, row)
	}
	return mixed
}

func TestMixSeals(t *testing.T) {
	random := rand.New(rand.NewSource(230))
	for count := range impl.MaxMembers + 1 {
		for range 50 {
			rows, order, keys := randomRows(random, count), randomOrder(random, count), randomLists(random, count)
			got, ok := impl.MixSeals(rows, order, keys)
			expectLists(t, fmt.Sprint("MixSeals ", rows, order, keys), got, ok, mixedIn(rows, order, keys), true)
		}
	}
}

// Mixing keeps what the ballots count, with the keys of the mix.
func TestMixingKeepsTheCount(t *testing.T) {
	random := rand.New(rand.NewSource(231))
	for count := range impl.MaxMembers + 1 {
		for range 10 {
			votes, weights := randomList(random, count, randomVote), randomList(random, count, randomWeight)
			ballots, keys := randomBallots(random, votes)
			order, added := randomOrder(random, count), randomLists(random, count)
			var rows [][]int64
			moved := make([]int64, count)
			for i, b := range ballots {
				rows, moved[i] = append(rows, b.Seals), weights[order[i]]
			}
			mixed, isMixed := impl.MixSeals(rows, order, added)
			opened, _ := impl.OpenCount(votes, weights)
			sums, addedSums := joinedKeys(keys, weights), joinedKeys(added, moved)
			for vote := range 3 {
				got, ok := impl.JoinSeals(column(mixed, vote), moved)
				want, _ := impl.SealOf(opened[vote], exponentIn([2]int64{sums[vote], 1}, [2]int64{addedSums[vote], 1}))
				expect(t, fmt.Sprint("JoinSeals of mixed ballots ", votes, weights, order, added), got, ok && isMixed, want, true)
			}
		}
	}
}

func TestMixSealsCases(t *testing.T) {
	many := slices.Repeat([][]int64{{4, 1, 9}}, 13)
	for _, c := range []struct {
		name  string
		rows  [][]int64
		order []int64
		keys  [][]int64
		want  [][]int64
		ok    bool
	}{
		{"two rows exchanged", [][]int64{{4, 1, 9}, {1, 4, 1}}, []int64{1, 0}, [][]int64{{0, 0, 1}, {1, 0, 0}}, [][]int64{{1, 4, 9}, {36, 1, 9}}, true},
		{"two rows in their order", [][]int64{{4, 1, 9}, {1, 4, 1}}, []int64{0, 1}, [][]int64{{0, 0, 1}, {1, 0, 0}}, [][]int64{{4, 1, 81}, {9, 4, 1}}, true},
		{"no rows", nil, nil, nil, nil, true},
		{"no rows, in empty lists", [][]int64{}, []int64{}, [][]int64{}, nil, true},
		{"one row", many[:1], []int64{0}, [][]int64{{half - 1, 1, 0}}, [][]int64{{444444448, 9, 9}}, true},
		{"three rows in a circle", [][]int64{{1, 1, 1}, {4, 4, 4}, {9, 9, 9}}, []int64{1, 2, 0}, zeroLists(3), [][]int64{{4, 4, 4}, {9, 9, 9}, {1, 1, 1}}, true},
		{"MaxMembers rows", many[:12], others(12, -1), zeroLists(12), many[:12], true},
		{"one row more than MaxMembers", many, others(13, -1), zeroLists(13), nil, false},
		{"the same row twice", many[:2], []int64{1, 1}, zeroLists(2), nil, false},
		{"a row that does not exist", many[:2], []int64{0, 2}, zeroLists(2), nil, false},
		{"a row before the first one", many[:2], []int64{0, -1}, zeroLists(2), nil, false},
		{"a far row", many[:1], []int64{math.MaxInt64}, zeroLists(1), nil, false},
		{"a far row before the first one", many[:1], []int64{math.MinInt64}, zeroLists(1), nil, false},
		{"a row beyond bits", many[:1], []int64{1 << 32}, zeroLists(1), nil, false},
		{"an order that leaves out a row", many[:2], []int64{0}, zeroLists(1), nil, false},
		{"an order that leaves out a row, with all keys", many[:2], []int64{0}, zeroLists(2), nil, false},
		{"an order of too many rows", many[:2], []int64{0, 1, 2}, zeroLists(3), nil, false},
		{"an order of too many rows, with all keys", many[:2], []int64{0, 1, 2}, zeroLists(2), nil, false},
		{"no order", many[:2], nil, zeroLists(2), nil, false},
		{"an order without rows", nil, []int64{0}, zeroLists(1), nil, false},
		{"keys without rows", nil, nil, zeroLists(1), nil, false},
		{"keys of too few rows", many[:2], []int64{1, 0}, zeroLists(1), nil, false},
		{"keys of too many rows", many[:2], []int64{1, 0}, zeroLists(3), nil, false},
		{"no keys", many[:2], []int64{1, 0}, nil, nil, false},
	} {
		got, ok := impl.MixSeals(c.rows, c.order, c.keys)
		expectLists(t, c.name, got, ok, c.want, c.ok)
	}
}

func TestMixSealsRefusesNumbers(t *testing.T) {
	refused := func(what string, rows, keys [][]int64) {
		t.Helper()
		for _, order := range [][]int64{{0, 1}, {1, 0}} {
			got, ok := impl.MixSeals(rows, order, keys)
			expectLists(t, fmt.Sprint("MixSeals with ", what, rows, keys), got, ok, nil, false)
		}
	}
	for i := range 2 {
		row := func(list []int64) [][]int64 {
			rows := [][]int64{{4, 9, 1}, {1, 4, 9}}
			rows[i] = list
			return rows
		}
		for _, length := range []int{0, 1, 2, 4, 100} {
			refused("a row of another length", row(slices.Repeat([]int64{1}, length)), zeroLists(2))
			refused("keys of another length", [][]int64{{4, 9, 1}, {1, 4, 9}}, row(make([]int64, length)))
			refused("a row and keys of another length", row(slices.Repeat([]int64{1}, length)), row(make([]int64, length)))
		}
		for j := range 3 {
			for _, n := range notSeals() {
				rows := row([]int64{1, 1, 1})
				rows[i][j] = n
				refused("a number that is no seal", rows, zeroLists(2))
			}
			for _, n := range notExponents() {
				keys := zeroLists(2)
				keys[i][j] = n
				refused("a key that is no exponent", row([]int64{1, 1, 1}), keys)
			}
		}
	}
}

func TestComposeMixes(t *testing.T) {
	random := rand.New(rand.NewSource(232))
	for count := range impl.MaxMembers + 1 {
		for range 50 {
			rows, first, second := randomRows(random, count), randomOrder(random, count), randomOrder(random, count)
			keys, keys2 := randomLists(random, count), randomLists(random, count)
			what := fmt.Sprint("ComposeMixes ", first, keys, second, keys2)
			var wantOrder []int64
			var wantKeys [][]int64
			for i, from := range second {
				wantOrder = append(wantOrder, first[from])
				row := make([]int64, 3)
				for j := range row {
					row[j] = exponentIn([2]int64{keys[from][j], 1}, [2]int64{keys2[i][j], 1})
				}
				wantKeys = append(wantKeys, row)
			}
			order, sums, ok := impl.ComposeMixes(first, keys, second, keys2)
			expectList(t, what, order, ok, wantOrder, true)
			expectLists(t, what, sums, ok, wantKeys, true)
			between, _ := impl.MixSeals(rows, first, keys)
			twice, isTwice := impl.MixSeals(between, second, keys2)
			once, isOnce := impl.MixSeals(rows, order, sums)
			expectLists(t, what+": MixSeals in one step", once, isOnce, twice, isTwice)
		}
	}
}

func TestComposeMixesCases(t *testing.T) {
	for _, c := range []struct {
		name      string
		order     []int64
		keys      [][]int64
		order2    []int64
		keys2     [][]int64
		want      []int64
		wantKeys  [][]int64
		isRefused bool
	}{
		{"two exchanges", []int64{1, 0}, [][]int64{{0, 0, 1}, {1, 0, 0}}, []int64{1, 0}, [][]int64{{0, 0, 0}, {0, 0, 2}}, []int64{0, 1}, [][]int64{{1, 0, 0}, {0, 0, 3}}, false},
		{"an exchange and none", []int64{1, 0}, [][]int64{{1, 2, 3}, {4, 5, 6}}, []int64{0, 1}, [][]int64{{10, 20, 30}, {40, 50, 60}}, []int64{1, 0}, [][]int64{{11, 22, 33}, {44, 55, 66}}, false},
		{"none and an exchange", []int64{0, 1}, [][]int64{{1, 2, 3}, {4, 5, 6}}, []int64{1, 0}, [][]int64{{10, 20, 30}, {40, 50, 60}}, []int64{1, 0}, [][]int64{{14, 25, 36}, {41, 52, 63}}, false},
		{"two circles", []int64{1, 2, 0}, zeroLists(3), []int64{1, 2, 0}, zeroLists(3), []int64{2, 0, 1}, zeroLists(3), false},
		{"an exchange before a circle", []int64{1, 0, 2}, zeroLists(3), []int64{1, 2, 0}, zeroLists(3), []int64{0, 2, 1}, zeroLists(3), false},
		{"sums of SealOrder and more", []int64{0}, [][]int64{{half - 1, half - 1, half - 1}}, []int64{0}, [][]int64{{1, half - 1, 0}}, []int64{0}, [][]int64{{0, half - 2, half - 1}}, false},
		{"no rows", nil, nil, nil, nil, nil, nil, false},
		{"no rows, in empty lists", []int64{}, [][]int64{}, []int64{}, [][]int64{}, nil, nil, false},
		{"MaxMembers rows", others(12, -1), zeroLists(12), others(12, -1), zeroLists(12), others(12, -1), zeroLists(12), false},
		{"one row more than MaxMembers", others(13, -1), zeroLists(13), others(13, -1), zeroLists(13), nil, nil, true},
		{"two rows and one", []int64{1, 0}, zeroLists(2), []int64{0}, zeroLists(1), nil, nil, true},
		{"one row and two", []int64{0}, zeroLists(1), []int64{1, 0}, zeroLists(2), nil, nil, true},
		{"no row and one", nil, nil, []int64{0}, zeroLists(1), nil, nil, true},
		{"one row and none", []int64{0}, zeroLists(1), nil, nil, nil, nil, true},
	} {
		order, keys, ok := impl.ComposeMixes(c.order, c.keys, c.order2, c.keys2)
		expectList(t, c.name, order, ok, c.want, !c.isRefused)
		expectLists(t, c.name, keys, ok, c.wantKeys, !c.isRefused)
	}
}

func TestComposeMixesRefuses(t *testing.T) {
	refused := func(what string, order []int64, keys [][]int64) {
		t.Helper()
		for _, right := range [][]int64{{0, 1}, {1, 0}} {
			got, sums, ok := impl.ComposeMixes(order, keys, right, zeroLists(2))
			expectList(t, fmt.Sprint("ComposeMixes after ", what, order, keys), got, ok, nil, false)
			expectLists(t, fmt.Sprint("keys of ComposeMixes after ", what, order, keys), sums, ok, nil, false)
			got, sums, ok = impl.ComposeMixes(right, zeroLists(2), order, keys)
			expectList(t, fmt.Sprint("ComposeMixes before ", what, order, keys), got, ok, nil, false)
			expectLists(t, fmt.Sprint("keys of ComposeMixes before ", what, order, keys), sums, ok, nil, false)
		}
		got, sums, ok := impl.ComposeMixes(order, keys, order, keys)
		expectList(t, fmt.Sprint("ComposeMixes of ", what, order, keys), got, ok, nil, false)
		expectLists(t, fmt.Sprint("keys of ComposeMixes of ", what, order, keys), sums, ok, nil, false)
	}
	for _, order := range [][]int64{{0, 0}, {1, 1}, {0, 2}, {2, 1}, {0, -1}, {-1, 0}, {0, 1 << 32}, {math.MaxInt64, 0}, {math.MinInt64, 0}} {
		refused("an order that is none", order, zeroLists(2))
	}
	for _, length := range []int{0, 1, 3} {
		refused("keys of another number of rows", []int64{1, 0}, zeroLists(length))
	}
	for i := range 2 {
		for _, length := range []int{0, 1, 2, 4, 100} {
			keys := zeroLists(2)
			keys[i] = make([]int64, length)
			refused("keys of another length", []int64{1, 0}, keys)
		}
		for j := range 3 {
			for _, n := range notExponents() {
				keys := zeroLists(2)
				keys[i][j] = n
				refused("a key that is no exponent", []int64{1, 0}, keys)
			}
		}
	}
}
