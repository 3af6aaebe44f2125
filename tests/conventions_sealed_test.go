package tests

import (
	"math"
	"slices"
	"testing"

	"loop.example/g01095/impl"
)

// sealCalls are the functions of two lists, and of two numbers.
func sealCalls(list, weights []int64, a, b int64) []call {
	return []call{
		{"IsSeal", func() []any { return single(impl.IsSeal(a)) }},
		{"SealOf", func() []any { return pair(impl.SealOf(a, b)) }},
		{"JoinSeals", func() []any { return pair(impl.JoinSeals(list, weights)) }},
		{"JoinKeys", func() []any { return pair(impl.JoinKeys(list, weights)) }},
		{"ChallengeOf", func() []any { return pair(impl.ChallengeOf(list)) }},
		{"ProveBit", func() []any { return pair(impl.ProveBit(a, b, list)) }},
	}
}

// ballotCalls are the functions of ballots with their weights, a count and keys.
func ballotCalls(ballots []impl.Ballot, weights, count, keys []int64) []call {
	return []call{
		{"CountSealed", func() []any { return pair(impl.CountSealed(ballots, weights)) }},
		{"IsOpening", func() []any { return single(impl.IsOpening(ballots, weights, count, keys)) }},
	}
}

// mixCalls are the functions of rows, an order and keys.
func mixCalls(rows [][]int64, order []int64, keys [][]int64, order2 []int64, keys2 [][]int64) []call {
	compose := func(order []int64, keys [][]int64, order2 []int64, keys2 [][]int64) func() []any {
		return func() []any {
			both, sums, ok := impl.ComposeMixes(order, keys, order2, keys2)
			return []any{both, sums, ok}
		}
	}
	return []call{
		{"MixSeals", func() []any { return pair(impl.MixSeals(rows, order, keys)) }},
		{"ComposeMixes", compose(order, keys, order2, keys2)},
		{"ComposeMixes of the same", compose(order, keys, order, keys)},
	}
}

// auditCalls are the functions of votes with their weights, a key and a limit.
func auditCalls(votes, actual, weights []int64, key int64, limit impl.Fraction) []call {
	return []call{
		{"OpenCount", func() []any { return pair(impl.OpenCount(votes, weights)) }},
		{"AdoptedBy", func() []any { return pair(impl.AdoptedBy(votes, weights)) }},
		{"MarginOf", func() []any { return pair(impl.MarginOf(votes, weights)) }},
		{"RunAudit", func() []any {
			examined, adopted, ok := impl.RunAudit(votes, actual, weights, key, limit)
			return []any{examined, adopted, ok}
		}},
	}
}

// unusualNumbers are at, near and far beyond the bounds of chapter 9.
func unusualNumbers() []int64 {
	return slices.Concat([]int64{0, 1, 2, 3, 4, 9, 30, 31, 1000, 1001, prime - 2, impl.MaxAuditKey, impl.MaxAuditKey + 1}, edgeExponents(), notExponents(), notSeals())
}

// unusualLists are short, long, in order or beyond all bounds.
func unusualLists() [][]int64 {
	lists := [][]int64{nil, {}, {0}, {1}, {1, 0}, {0, 1}, {0, 1, 2}, {2, 1, 0}, {1, 2, 1, 0}, {4, 9, 1}, greatestSeals(12), greatestSeals(13), slices.Repeat([]int64{1000}, 12), slices.Repeat([]int64{1000}, 30), slices.Repeat([]int64{1}, 31), others(12, -1), others(13, -1), make([]int64, 100)}
	for _, n := range unusualNumbers() {
		lists = append(lists, []int64{n}, []int64{1, n, 1})
	}
	return lists
}

func TestChapter9KeepsTheConventions(t *testing.T) {
	lists := unusualLists()
	for _, list := range lists {
		list := roomy(list)
		checkCalls(t, sealCalls(list, list, 1, 1), list)
		checkCalls(t, sealCalls(list, slices.Repeat([]int64{1}, len(list)), 0, 1), list)
		for _, weights := range lists[:17] {
			weights := roomy(weights)
			checkCalls(t, sealCalls(list, weights, 0, 1), list, weights)
			checkCalls(t, sealCalls(weights, list, 1, 0), list, weights)
		}
	}
	nonces := roomy([]int64{1, 2, 3})
	for _, a := range unusualNumbers() {
		for _, b := range unusualNumbers() {
			checkCalls(t, sealCalls(nonces, nonces, a, b), nonces)
			checkCalls(t, []call{
				{"RiskOf", func() []any { return pair(impl.RiskOf(a, b, 2)) }},
				{"RiskOf", func() []any { return pair(impl.RiskOf(9, a, b)) }},
				{"SampleFor", func() []any { return pair(impl.SampleFor(a, b, frac(1, 2))) }},
				{"AuditOrder", func() []any { return pair(impl.AuditOrder(a, b)) }},
			})
		}
	}
	for _, limit := range append(notFractions(), frac(0, 1), frac(1, 2), frac(1, 1), frac(-1, 2)) {
		checkCalls(t, []call{{"SampleFor", func() []any { return pair(impl.SampleFor(9, 3, limit)) }}})
	}
}

// unusualProofs are right, wrong, empty or very long.
func unusualProofs() []impl.BitProof {
	p := provedIn(sealIn(0, 5), 0, 5, []int64{1, 2, 3})
	proofs := []impl.BitProof{p, {}, {Marks: []int64{1, 1}}, {Marks: make([]int64, 2), Challenges: make([]int64, 2), Answers: make([]int64, 2)}, {Marks: make([]int64, 100), Challenges: make([]int64, 100), Answers: make([]int64, 100)}}
	for _, n := range unusualNumbers() {
		proofs = append(proofs, impl.BitProof{Marks: []int64{n, n}, Challenges: []int64{n, n}, Answers: []int64{n, n}})
	}
	for _, changed := range changedProofs(p) {
		proofs = append(proofs, changed)
	}
	return proofs
}

func TestBallotsKeepTheConventions(t *testing.T) {
	right := votedIn(impl.BallotYes, []int64{0, half - 1, 7}, [][]int64{{1, 2, 3}, {4, 5, 6}, {7, 8, 9}})
	check := func(b impl.Ballot) {
		b = roomy(b)
		checkCalls(t, []call{{"IsBallot", func() []any { return single(impl.IsBallot(b)) }}}, b)
		ballots, weights, count, keys := roomy([]impl.Ballot{right, b}), roomy([]int64{2, 3}), roomy([]int64{0, 5, 0}), roomy([]int64{0, half - 5, 35})
		checkCalls(t, ballotCalls(ballots, weights, count, keys), ballots, weights, count, keys)
	}
	check(right)
	check(impl.Ballot{})
	for _, p := range unusualProofs() {
		p := roomy(p)
		for _, seal := range []int64{sealIn(0, 5), 0, 1, prime, math.MaxInt64, math.MinInt64} {
			checkCalls(t, []call{{"IsBitProof", func() []any { return single(impl.IsBitProof(seal, p)) }}}, p)
		}
		check(impl.Ballot{Seals: right.Seals, Proofs: []impl.BitProof{right.Proofs[0], p, right.Proofs[2]}, Key: right.Key})
		check(impl.Ballot{Seals: p.Marks, Proofs: slices.Repeat([]impl.BitProof{p}, len(p.Marks)%5), Key: math.MaxInt64})
	}
	ballots := roomy([]impl.Ballot{right})
	for _, list := range unusualLists() {
		list := roomy(list)
		checkCalls(t, ballotCalls(ballots, list, []int64{0, 1, 0}, []int64{0, half - 1, 7}), ballots, list)
		checkCalls(t, ballotCalls(ballots, []int64{1}, list, []int64{0, half - 1, 7}), ballots, list)
		checkCalls(t, ballotCalls(ballots, []int64{1}, []int64{0, 1, 0}, list), ballots, list)
	}
	for _, count := range []int{0, 12, 13, 1000} {
		ballots, weights := slices.Repeat([]impl.Ballot{right}, count), slices.Repeat([]int64{1}, count)
		checkCalls(t, ballotCalls(ballots, weights, nil, nil), ballots, weights)
	}
}

func TestSealBallotKeepsTheConventions(t *testing.T) {
	keys, nonces := roomy([]int64{1, 2, 3}), roomy([][]int64{{1, 2, 3}, {4, 5, 6}, {7, 8, 9}})
	check := func(vote int64, keys []int64, nonces [][]int64) {
		checkCalls(t, []call{{"SealBallot", func() []any { return pair(impl.SealBallot(vote, keys, nonces)) }}}, keys, nonces)
	}
	for _, vote := range append(unusualNumbers(), 0, 1, 2) {
		check(vote, keys, nonces)
	}
	// The same list can be given for all of them.
	check(2, keys, [][]int64{keys, keys, keys})
	for _, list := range unusualLists() {
		list := roomy(list)
		check(1, list, nonces)
		check(1, keys, roomy([][]int64{{1, 2, 3}, list, {7, 8, 9}}))
		check(0, list, [][]int64{list, list, list})
		check(0, keys, make([][]int64, len(list)))
	}
}

func TestMixesKeepTheConventions(t *testing.T) {
	order, keys, rows := roomy([]int64{2, 0, 1}), roomy([][]int64{{1, 2, 3}, {4, 5, 6}, {half - 1, half - 2, half - 3}}), roomy([][]int64{{4, 9, 1}, {1, 4, 9}, {9, 1, 4}})
	row := roomy([]int64{1, 4, 9})
	checkCalls(t, mixCalls(rows, order, keys, order, keys), rows, order, keys)
	checkCalls(t, mixCalls([][]int64{row, row, row}, order, [][]int64{row, row, row}, order, [][]int64{row, row, row}), order, row)
	for _, list := range unusualLists() {
		list := roomy(list)
		lists := roomy([][]int64{{1, 4, 9}, list, {4, 1, 9}})
		checkCalls(t, mixCalls(rows, list, keys, order, keys), rows, list, keys, order)
		checkCalls(t, mixCalls(rows, order, keys, list, keys), rows, list, keys, order)
		checkCalls(t, mixCalls(lists, order, keys, order, lists), lists, order, keys)
		checkCalls(t, mixCalls(rows, order, lists, order, keys), rows, order, lists, keys)
		many := slices.Repeat([][]int64{{1, 1, 1}}, len(list))
		checkCalls(t, mixCalls(many, list, many, list, many), many, list)
	}
	for _, count := range []int{0, 1, 12, 13} {
		rows, order := roomy(slices.Repeat([][]int64{{1, 4, 9}}, count)), roomy(others(count, -1))
		checkCalls(t, mixCalls(rows, order, rows, order, rows), rows, order)
	}
}

func TestAuditsKeepTheConventions(t *testing.T) {
	votes, weights := roomy([]int64{1, 1, 1, 0, 2}), roomy([]int64{3, 1, 2, 4, 1})
	for _, key := range unusualNumbers() {
		checkCalls(t, auditCalls(votes, votes, weights, key, frac(1, 2)), votes, weights)
	}
	for _, limit := range append(notFractions(), frac(0, 1), frac(1, 2), frac(1, 1), frac(-1, 2)) {
		checkCalls(t, auditCalls(votes, []int64{1, 1, 1, 1, 1}, weights, 5, limit), votes, weights)
	}
	for _, list := range unusualLists() {
		list := roomy(list)
		ones := roomy(slices.Repeat([]int64{1}, len(list)))
		checkCalls(t, auditCalls(list, ones, ones, 5, frac(1, 2)), list, ones)
		checkCalls(t, auditCalls(ones, list, ones, 5, frac(0, 1)), list, ones)
		checkCalls(t, auditCalls(ones, ones, list, 5, frac(1, 20)), list, ones)
		checkCalls(t, auditCalls(votes, list, weights, 5, frac(1, 20)), list, votes, weights)
	}
}
