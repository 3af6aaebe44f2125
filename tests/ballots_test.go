package tests

import (
	"fmt"
	"math"
	"math/rand"
	"slices"
	"testing"

	"loop.example/g01095/impl"
)

// checkBallot checks whether b is a ballot.
func checkBallot(t *testing.T, what string, b impl.Ballot, want bool) {
	t.Helper()
	if got := impl.IsBallot(b); got != want {
		t.Errorf("%s: IsBallot of %v is %v", what, b, got)
	}
}

// expectBallot is expect for ballots.
func expectBallot(t *testing.T, what string, got impl.Ballot, ok bool, want impl.Ballot, wantOK bool) {
	t.Helper()
	if !sameBallot(got, want) || ok != wantOK {
		t.Errorf("%s: got %v, %v, want %v, %v", what, got, ok, want, wantOK)
	}
}

// zeroLists returns so many lists of three zeros.
func zeroLists(count int) [][]int64 {
	lists := make([][]int64, count)
	for i := range lists {
		lists[i] = make([]int64, 3)
	}
	return lists
}

func TestSealBallot(t *testing.T) {
	random := rand.New(rand.NewSource(220))
	for i := range 600 {
		vote, keys, nonces := int64(i%3), randomList(random, 3, randomExponent), randomLists(random, 3)
		what := fmt.Sprint("SealBallot ", vote, keys, nonces)
		got, ok := impl.SealBallot(vote, keys, nonces)
		expectBallot(t, what, got, ok, votedIn(vote, keys, nonces), true)
		checkBallot(t, what, got, true)
	}
}

func TestSealBallotCases(t *testing.T) {
	for _, c := range []struct {
		name  string
		vote  int64
		keys  []int64
		seals []int64
		key   int64
	}{
		{"a vote no", impl.BallotNo, []int64{0, 0, 0}, []int64{4, 1, 1}, 0},
		{"a vote yes", impl.BallotYes, []int64{0, 0, 0}, []int64{1, 4, 1}, 0},
		{"a blank vote", impl.BallotBlank, []int64{0, 0, 0}, []int64{1, 1, 4}, 0},
		{"keys in their places", impl.BallotYes, []int64{1, 2, 3}, []int64{9, 324, 729}, 6},
		{"keys with the sum SealOrder", impl.BallotBlank, []int64{1, half - 1, 0}, []int64{9, 111111112, 4}, 0},
		{"the greatest keys", impl.BallotNo, []int64{half - 1, half - 1, half - 1}, []int64{444444448, 111111112, 111111112}, half - 3},
	} {
		got, ok := impl.SealBallot(c.vote, c.keys, zeroLists(3))
		expectList(t, c.name, got.Seals, ok, c.seals, true)
		expect(t, c.name, got.Key, ok, c.key, true)
		expectBallot(t, c.name, got, ok, votedIn(c.vote, c.keys, zeroLists(3)), true)
	}
}

func TestSealBallotRefuses(t *testing.T) {
	refused := func(what string, vote int64, keys []int64, nonces [][]int64) {
		t.Helper()
		got, ok := impl.SealBallot(vote, keys, nonces)
		expectBallot(t, fmt.Sprint("SealBallot with ", what, vote, keys, nonces), got, ok, impl.Ballot{}, false)
	}
	zeros := make([]int64, 3)
	for _, vote := range []int64{-1, 3, 4, 1 << 32, math.MaxInt64, math.MinInt64} {
		refused("a vote that is none", vote, zeros, zeroLists(3))
	}
	for vote := range int64(3) {
		for _, length := range []int{0, 1, 2, 4, 100} {
			refused("as many keys", vote, make([]int64, length), zeroLists(3))
			refused("as many nonces", vote, zeros, zeroLists(length))
			refused("as many keys and nonces", vote, make([]int64, length), zeroLists(length))
			for i := range 3 {
				nonces := zeroLists(3)
				nonces[i] = make([]int64, length)
				refused("as many nonces for a seal", vote, zeros, nonces)
			}
		}
		refused("no keys", vote, nil, zeroLists(3))
		refused("no nonces", vote, zeros, nil)
		refused("nonces that are nil", vote, zeros, make([][]int64, 3))
		for _, n := range notExponents() {
			for i := range 3 {
				keys := make([]int64, 3)
				keys[i] = n
				refused("a key that is no exponent", vote, keys, zeroLists(3))
				for j := range 3 {
					nonces := zeroLists(3)
					nonces[i][j] = n
					refused("a nonce that is no exponent", vote, zeros, nonces)
				}
			}
		}
	}
}

func TestChangedBallots(t *testing.T) {
	random := rand.New(rand.NewSource(221))
	for i := range 50 {
		b := votedIn(int64(i%3), randomList(random, 3, randomExponent), randomLists(random, 3))
		change := func(what string, change func(b *impl.Ballot)) {
			changed := cloneBallot(b)
			change(&changed)
			checkBallot(t, what, changed, isBallotIn(changed))
			if isBallotIn(changed) != sameBallot(changed, b) {
				t.Errorf("%s: %v is a ballot like %v", what, changed, b)
			}
		}
		for _, key := range append(notExponents(), edgeExponents()...) {
			change("another key", func(b *impl.Ballot) { b.Key = key })
		}
		for _, n := range []int64{1, -1, half, -half, keyIn(4)} {
			change("a key that differs", func(b *impl.Ballot) { b.Key += n })
		}
		for vote := range 3 {
			for _, seal := range append(notSeals(), 1, 4, 9, b.Seals[vote]+prime, b.Seals[vote]-prime, prime-b.Seals[vote], productIn(b.Seals[vote], 9)) {
				change("another seal", func(b *impl.Ballot) { b.Seals[vote] = seal })
			}
			change("a seal and a key that differ", func(b *impl.Ballot) {
				b.Seals[vote] = productIn(b.Seals[vote], 9)
				b.Key = exponentIn([2]int64{b.Key, 1}, [2]int64{1, 1})
			})
			change("no proof", func(b *impl.Ballot) { b.Proofs[vote] = impl.BitProof{} })
			for list := range 3 {
				for i := range 2 {
					change("another number in a proof", func(b *impl.Ballot) { (*listsOf(&b.Proofs[vote])[list])[i] = randomExponent(random) })
				}
			}
			for other := range vote {
				change("two seals exchanged", func(b *impl.Ballot) { b.Seals[vote], b.Seals[other] = b.Seals[other], b.Seals[vote] })
				change("two proofs exchanged", func(b *impl.Ballot) { b.Proofs[vote], b.Proofs[other] = b.Proofs[other], b.Proofs[vote] })
			}
		}
	}
}

func TestBallotsOfOtherLengths(t *testing.T) {
	b := votedIn(impl.BallotYes, []int64{5, 6, 7}, [][]int64{{1, 2, 3}, {4, 5, 6}, {7, 8, 9}})
	checkBallot(t, "a ballot", b, true)
	checkBallot(t, "no ballot", impl.Ballot{}, false)
	// The seals without value and key leave the product as it is.
	one, isProved := impl.ProveBit(0, 0, []int64{1, 2, 3})
	checkBitProof(t, "the seal 1", 1, one, isProved)
	for _, c := range []struct {
		name   string
		seals  []int64
		proofs []impl.BitProof
		key    int64
	}{
		{"a fourth seal, 1, with its proof", append(slices.Clone(b.Seals), 1), append(slices.Clone(b.Proofs), one), b.Key},
		{"a fourth seal", append(slices.Clone(b.Seals), 1), b.Proofs, b.Key},
		{"a fourth proof", b.Seals, append(slices.Clone(b.Proofs), one), b.Key},
		{"two seals with their proofs", b.Seals[:2], b.Proofs[:2], 11},
		{"one seal with its proof", b.Seals[1:2], b.Proofs[1:2], 6},
		{"two seals", b.Seals[:2], b.Proofs, 11},
		{"two proofs", b.Seals, b.Proofs[:2], b.Key},
		{"no seals", nil, b.Proofs, b.Key},
		{"no proofs", b.Seals, nil, b.Key},
		{"13 seals with their proofs", append(slices.Clone(b.Seals), slices.Repeat([]int64{1}, 10)...), append(slices.Clone(b.Proofs), slices.Repeat([]impl.BitProof{one}, 10)...), b.Key},
	} {
		checkBallot(t, c.name, impl.Ballot{Seals: c.seals, Proofs: c.proofs, Key: c.key}, false)
	}
}

// A ballot is one by its seals, proofs and key alone.
func TestBallotsWithOtherValues(t *testing.T) {
	random := rand.New(rand.NewSource(222))
	four := keyIn(4)
	for range 50 {
		keys, nonces := randomList(random, 3, randomExponent), randomLists(random, 3)
		for _, c := range []struct {
			name       string
			values     []int64
			difference int64
		}{
			{"no vote", []int64{0, 0, 0}, -four},
			{"two votes, no and yes", []int64{1, 1, 0}, four},
			{"two votes, yes and blank", []int64{0, 1, 1}, four},
			{"two votes, no and blank", []int64{1, 0, 1}, four},
			{"three votes", []int64{1, 1, 1}, 2 * four},
		} {
			b := ballotIn(c.values, keys, nonces)
			checkBallot(t, c.name, b, false)
			// The proofs are right, and with another key the product of the seals is, too.
			b.Key = exponentIn([2]int64{b.Key, 1}, [2]int64{c.difference, 1})
			checkBallot(t, c.name+", with a key that opens the product", b, true)
		}
		for _, values := range [][]int64{{2, half - 1, 0}, {half - 1, 2, 0}, {0, 2, half - 1}, {half - 1, 1, 1}, {1, half - 1, 1}, {1, 1, half - 1}} {
			b := ballotIn(values, keys, nonces)
			if productIn(b.Seals...) != sealIn(1, b.Key) {
				t.Errorf("the product of the seals of %v is another one", b)
			}
			checkBallot(t, fmt.Sprint("values that add up to 1: ", values), b, false)
		}
	}
}

func TestOpenCount(t *testing.T) {
	random := rand.New(rand.NewSource(223))
	for count := range impl.MaxAudited + 2 {
		for range 50 {
			votes, weights := randomList(random, count, randomVote), randomList(random, count, randomWeight)
			got, ok := impl.OpenCount(votes, weights)
			what := fmt.Sprint("OpenCount ", votes, weights)
			if count > 30 {
				expectList(t, what, got, ok, nil, false)
				continue
			}
			expectList(t, what, got, ok, countIn(votes, weights), true)
		}
	}
}

// votesRefused are votes with weights that are none.
func votesRefused() map[string][2][]int64 {
	refused := map[string][2][]int64{
		"one vote more than MaxAudited":  {make([]int64, 31), make([]int64, 31)},
		"far more votes than MaxAudited": {make([]int64, 500), slices.Repeat([]int64{1}, 500)},
		"no weights":                     {{1}, nil},
		"weights without votes":          {nil, {0}},
		"one weight too few":             {{1, 0}, {1}},
		"one weight too many":            {{1, 0}, {1, 1, 0}},
	}
	for _, vote := range []int64{-1, 3, 4, 1 << 32, math.MaxInt64, math.MinInt64} {
		refused[fmt.Sprint("the vote ", vote)] = [2][]int64{{vote}, {1}}
		refused[fmt.Sprint("the vote with weight 0 ", vote)] = [2][]int64{{vote}, {0}}
		refused[fmt.Sprint("the last vote ", vote)] = [2][]int64{{0, 1, 2, vote}, {1, 1, 1, 1}}
		refused[fmt.Sprint("the first vote ", vote)] = [2][]int64{{vote, 1}, {1, 1}}
	}
	for _, weight := range notWeights() {
		refused[fmt.Sprint("the weight ", weight)] = [2][]int64{{1}, {weight}}
		refused[fmt.Sprint("the last weight ", weight)] = [2][]int64{{0, 1, 2}, {1, 1, weight}}
		refused[fmt.Sprint("the first weight ", weight)] = [2][]int64{{2, 1}, {weight, 1}}
	}
	return refused
}

func TestOpenCountCases(t *testing.T) {
	for _, c := range []struct {
		name           string
		votes, weights []int64
		want           []int64
	}{
		{"no votes", nil, nil, []int64{0, 0, 0}},
		{"no votes, in empty lists", []int64{}, []int64{}, []int64{0, 0, 0}},
		{"all kinds of votes", []int64{0, 1, 1, 2}, []int64{1, 2, 3, 4}, []int64{1, 5, 4}},
		{"weights of 0", []int64{0, 1, 2}, []int64{0, 0, 0}, []int64{0, 0, 0}},
		{"MaxAudited votes with MaxWeight", slices.Repeat([]int64{2}, 30), slices.Repeat([]int64{1000}, 30), []int64{0, 0, 30000}},
	} {
		got, ok := impl.OpenCount(c.votes, c.weights)
		expectList(t, c.name, got, ok, c.want, true)
	}
	for name, c := range votesRefused() {
		got, ok := impl.OpenCount(c[0], c[1])
		expectList(t, "OpenCount with "+name, got, ok, nil, false)
	}
}

func TestCountSealed(t *testing.T) {
	random := rand.New(rand.NewSource(224))
	for count := range impl.MaxMembers + 1 {
		for range 10 {
			votes, weights := randomList(random, count, randomVote), randomList(random, count, randomWeight)
			ballots, _ := randomBallots(random, votes)
			want := []int64{1, 1, 1}
			for i, b := range ballots {
				for vote, seal := range b.Seals {
					want[vote] = productIn(want[vote], powerIn(seal, weights[i]))
				}
			}
			got, ok := impl.CountSealed(ballots, weights)
			expectList(t, fmt.Sprint("CountSealed ", votes, weights), got, ok, want, true)
		}
	}
}

// The sealed count is the open count.
func TestSealedCountIsTheOpenCount(t *testing.T) {
	random := rand.New(rand.NewSource(225))
	for count := range impl.MaxMembers + 1 {
		for range 10 {
			votes, weights := randomList(random, count, randomVote), randomList(random, count, randomWeight)
			ballots, keys := randomBallots(random, votes)
			opened, _ := impl.OpenCount(votes, weights)
			sums := joinedKeys(keys, weights)
			for vote := range 3 {
				sum, ok := impl.JoinKeys(column(keys, vote), weights)
				expect(t, "JoinKeys of the keys of ballots", sum, ok, sums[vote], true)
			}
			check := func(what string, count, keys []int64, want bool) {
				t.Helper()
				if got := impl.IsOpening(ballots, weights, count, keys); got != want {
					t.Errorf("%s: IsOpening of %v with %v by %v and %v is %v", what, votes, weights, count, keys, got)
				}
			}
			check("the open count", opened, sums, true)
			for vote := range 3 {
				for _, n := range []int64{1, -1, 1000, half, -half} {
					other := slices.Clone(opened)
					other[vote] += n
					check("another count", other, sums, false)
					other = slices.Clone(sums)
					other[vote] += n
					check("another key", opened, other, false)
				}
				for other := range vote {
					swapped := slices.Clone(opened)
					swapped[vote], swapped[other] = swapped[other], swapped[vote]
					check("two counts exchanged", swapped, sums, opened[vote] == opened[other])
				}
			}
		}
	}
}

// Each count can be opened by some key, so that only the bounds keep a count from being one.
func TestBoundsOfOpenings(t *testing.T) {
	random := rand.New(rand.NewSource(226))
	four := keyIn(4)
	votes, weights := []int64{1, 0, 2, 1}, []int64{3, 1000, 0, 7}
	ballots, keys := randomBallots(random, votes)
	opened, sums := countIn(votes, weights), joinedKeys(keys, weights)
	for vote := range 3 {
		for _, n := range []int64{0, 1, 11999, 12000, 12001, 13000, half - 1, half, -1, math.MaxInt64, math.MinInt64} {
			other, key := slices.Clone(opened), slices.Clone(sums)
			other[vote] = n
			key[vote] = exponentIn([2]int64{key[vote], 1}, [2]int64{opened[vote] - n%half, four})
			got := impl.IsOpening(ballots, weights, other, key)
			if want := n >= 0 && n <= 12000; got != want {
				t.Errorf("IsOpening by the count %d with the key for it is %v", n, got)
			}
		}
	}
	one := []impl.Ballot{votedIn(impl.BallotYes, []int64{0, half - 1, 1}, zeroLists(3))}
	for _, c := range []struct {
		keys []int64
		want bool
	}{
		{[]int64{0, half - 1, 1}, true}, {[]int64{half, half - 1, 1}, false}, {[]int64{-half, half - 1, 1}, false}, {[]int64{0, -1, 1}, false}, {[]int64{0, 2*half - 1, 1}, false}, {[]int64{0, half - 1, half + 1}, false},
		{[]int64{0, half - 1, 1 - half}, false}, {[]int64{0, half - 2, 1}, false}, {[]int64{1, half - 1, 1}, false}, {[]int64{0, half - 1, 0}, false}, {[]int64{0, 1, half - 1}, false},
	} {
		if got := impl.IsOpening(one, []int64{1}, []int64{0, 1, 0}, c.keys); got != c.want {
			t.Errorf("IsOpening by the keys %v is %v", c.keys, got)
		}
	}
}

func TestIsOpeningCases(t *testing.T) {
	yes := votedIn(impl.BallotYes, []int64{0, 0, 0}, zeroLists(3))
	all := slices.Repeat([]impl.Ballot{yes}, 13)
	zeros := []int64{0, 0, 0}
	for _, c := range []struct {
		name                 string
		ballots              []impl.Ballot
		weights, count, keys []int64
		want                 bool
	}{
		{"two ballots", all[:2], []int64{2, 3}, []int64{0, 5, 0}, zeros, true},
		{"another count", all[:2], []int64{2, 3}, []int64{0, 4, 0}, zeros, false},
		{"a count for another vote", all[:2], []int64{2, 3}, []int64{5, 0, 0}, zeros, false},
		{"no ballots", nil, nil, zeros, zeros, true},
		{"no ballots and another count", nil, nil, []int64{0, 1, 0}, zeros, false},
		{"no ballots and another key", nil, nil, zeros, []int64{1, 0, 0}, false},
		{"weights of 0", all[:2], []int64{0, 0}, zeros, zeros, true},
		{"MaxMembers ballots with MaxWeight", all[:12], slices.Repeat([]int64{1000}, 12), []int64{0, 12000, 0}, zeros, true},
		{"one ballot more than MaxMembers", all, slices.Repeat([]int64{1}, 13), []int64{0, 13, 0}, zeros, false},
		{"one ballot more than MaxMembers, with weights of 0", all, make([]int64, 13), zeros, zeros, false},
		{"no weights", all[:1], nil, []int64{0, 1, 0}, zeros, false},
		{"one weight too many", all[:1], []int64{1, 0}, []int64{0, 1, 0}, zeros, false},
		{"a weight too great", all[:1], []int64{1001}, []int64{0, 1001, 0}, zeros, false},
		{"a negative weight", all[:2], []int64{2, -1}, []int64{0, 1, 0}, zeros, false},
		{"two counts", all[:1], []int64{1}, []int64{0, 1}, zeros, false},
		{"four counts", all[:1], []int64{1}, []int64{0, 1, 0, 0}, zeros, false},
		{"no counts", nil, nil, nil, zeros, false},
		{"two keys", all[:1], []int64{1}, []int64{0, 1, 0}, zeros[:2], false},
		{"four keys", all[:1], []int64{1}, []int64{0, 1, 0}, []int64{0, 0, 0, 0}, false},
		{"no keys", nil, nil, zeros, nil, false},
		{"neither counts nor keys", nil, nil, nil, nil, false},
		{"a ballot that is none", []impl.Ballot{{}}, []int64{1}, zeros, zeros, false},
		{"a ballot that is none, with the weight 0", []impl.Ballot{yes, {}}, []int64{1, 0}, []int64{0, 1, 0}, zeros, false},
	} {
		if got := impl.IsOpening(c.ballots, c.weights, c.count, c.keys); got != c.want {
			t.Errorf("%s: IsOpening is %v", c.name, got)
		}
	}
}

func TestCountSealedCases(t *testing.T) {
	b := votedIn(impl.BallotYes, []int64{1, 2, 3}, zeroLists(3))
	all := slices.Repeat([]impl.Ballot{b}, 13)
	// Its seals can be joined, but it is no ballot.
	otherKey, noProof, extra := cloneBallot(b), cloneBallot(b), cloneBallot(b)
	otherKey.Key++
	noProof.Proofs[2] = impl.BitProof{}
	extra.Seals = append(extra.Seals, 1)
	ones := slices.Repeat([]int64{1}, 13)
	for _, c := range []struct {
		name    string
		ballots []impl.Ballot
		weights []int64
		want    []int64
	}{
		{"no ballots", nil, nil, []int64{1, 1, 1}},
		{"no ballots, in empty lists", []impl.Ballot{}, []int64{}, []int64{1, 1, 1}},
		{"one ballot", all[:1], ones[:1], []int64{9, 324, 729}},
		{"a weight of 0", all[:1], []int64{0}, []int64{1, 1, 1}},
		{"two weights", all[:2], []int64{1, 2}, []int64{sealIn(0, 3), sealIn(3, 6), sealIn(0, 9)}},
		{"MaxMembers ballots with MaxWeight", all[:12], slices.Repeat([]int64{1000}, 12), []int64{sealIn(0, 12000), sealIn(12000, 24000), sealIn(0, 36000)}},
		{"one ballot more than MaxMembers", all, ones, nil},
		{"one ballot more than MaxMembers, with weights of 0", all, make([]int64, 13), nil},
		{"no weights", all[:1], nil, nil},
		{"weights without ballots", nil, ones[:1], nil},
		{"one weight too few", all[:2], ones[:1], nil},
		{"one weight too many", all[:2], ones[:3], nil},
		{"a weight too great", all[:1], []int64{1001}, nil},
		{"a negative weight", all[:1], []int64{-1}, nil},
		{"a ballot with another key", []impl.Ballot{otherKey}, ones[:1], nil},
		{"a last ballot with another key", []impl.Ballot{b, otherKey}, ones[:2], nil},
		{"a ballot with another key and the weight 0", []impl.Ballot{otherKey, b}, []int64{0, 1}, nil},
		{"a ballot without a proof", []impl.Ballot{noProof, b}, ones[:2], nil},
		{"a ballot with a fourth seal", []impl.Ballot{extra}, ones[:1], nil},
		{"an empty ballot", []impl.Ballot{{}}, ones[:1], nil},
	} {
		got, ok := impl.CountSealed(c.ballots, c.weights)
		expectList(t, c.name, got, ok, c.want, c.want != nil)
	}
}
