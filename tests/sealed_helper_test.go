package tests

import (
	"math"
	"math/big"
	"math/rand"
	"slices"

	"loop.example/g01095/impl"
)

// The document's prime, and half of it less 1.
const (
	prime = 1000000007
	half  = 500000003
)

// modulo returns the remainder of a number that is not negative.
func modulo(n *big.Int, by int64) int64 { return new(big.Int).Mod(n, big.NewInt(by)).Int64() }

// productIn multiplies modulo the prime.
func productIn(list ...int64) int64 {
	product := big.NewInt(1)
	for _, n := range list {
		product.Mul(product, big.NewInt(n))
	}
	return modulo(product, prime)
}

// powerIn takes a power modulo the prime; the exponent may be negative.
func powerIn(base, exponent int64) int64 {
	return new(big.Int).Exp(big.NewInt(base), big.NewInt(exponent), big.NewInt(prime)).Int64()
}

// exponentIn returns the sum of products of two exponents each.
func exponentIn(pairs ...[2]int64) int64 {
	sum := new(big.Int)
	for _, p := range pairs {
		sum.Add(sum, new(big.Int).Mul(big.NewInt(p[0]), big.NewInt(p[1])))
	}
	return modulo(sum, half)
}

func sealIn(value, key int64) int64 { return productIn(powerIn(4, value), powerIn(9, key)) }

// isSealIn reports whether n is a square modulo the prime, which is so exactly for the seals.
func isSealIn(n int64) bool {
	return n >= 1 && n < prime && big.Jacobi(big.NewInt(n), big.NewInt(prime)) == 1
}

func isExponentIn(n int64) bool { return n >= 0 && n < half }

// greatestSeals returns the greatest seals, whose products come near the square of the prime.
func greatestSeals(count int) []int64 {
	var seals []int64
	for n := int64(prime - 1); len(seals) < count; n-- {
		if isSealIn(n) {
			seals = append(seals, n)
		}
	}
	return seals
}

// keyIn returns the key with which a seal is the one of the value 0.
func keyIn(seal int64) int64 {
	const stride = 22400
	steps := map[int64]int64{}
	for i, power := int64(0), seal; i < stride; i, power = i+1, productIn(power, 9) {
		steps[power] = i
	}
	leap := powerIn(9, stride)
	for i, power := int64(1), leap; ; i, power = i+1, productIn(power, leap) {
		if step, isStep := steps[power]; isStep {
			return i*stride - step
		}
	}
}

// challengeIn is the challenge of a list, without the bounds of the document.
func challengeIn(list ...int64) int64 {
	challenge := int64(7)
	for _, n := range list {
		challenge = exponentIn([2]int64{challenge, 1000003}, [2]int64{n, 1}, [2]int64{1, 1})
	}
	return challenge
}

// bareSeal is the seal that the condition for a bit speaks of.
func bareSeal(seal int64, bit int) int64 {
	if bit == 1 {
		return productIn(seal, powerIn(4, -1))
	}
	return seal
}

// markIn returns the mark for which the condition for a bit holds.
func markIn(seal int64, bit int, challenge, answer int64) int64 {
	return productIn(powerIn(9, answer), powerIn(bareSeal(seal, bit), -challenge))
}

// provedIn returns a proof for a seal, of which key is the one without the value of the bit.
func provedIn(seal int64, bit int, key int64, nonces []int64) impl.BitProof {
	p, other := impl.BitProof{Marks: make([]int64, 2), Challenges: make([]int64, 2), Answers: make([]int64, 2)}, 1-bit
	p.Marks[bit] = powerIn(9, nonces[0])
	p.Challenges[other], p.Answers[other] = nonces[1], nonces[2]
	p.Marks[other] = markIn(seal, other, nonces[1], nonces[2])
	p.Challenges[bit] = exponentIn([2]int64{challengeIn(seal, p.Marks[0], p.Marks[1]), 1}, [2]int64{-nonces[1], 1})
	p.Answers[bit] = exponentIn([2]int64{nonces[0], 1}, [2]int64{p.Challenges[bit], key})
	return p
}

// isBitProofIn goes through the conditions for a proof.
func isBitProofIn(seal int64, p impl.BitProof) bool {
	if !isSealIn(seal) || len(p.Marks) != 2 || len(p.Challenges) != 2 || len(p.Answers) != 2 {
		return false
	}
	for i := range 2 {
		if !isSealIn(p.Marks[i]) || !isExponentIn(p.Challenges[i]) || !isExponentIn(p.Answers[i]) {
			return false
		}
		if powerIn(9, p.Answers[i]) != productIn(p.Marks[i], powerIn(bareSeal(seal, i), p.Challenges[i])) {
			return false
		}
	}
	return (p.Challenges[0]+p.Challenges[1])%half == challengeIn(seal, p.Marks[0], p.Marks[1])
}

func isBallotIn(b impl.Ballot) bool {
	if len(b.Seals) != 3 || len(b.Proofs) != 3 || !isExponentIn(b.Key) {
		return false
	}
	for i, seal := range b.Seals {
		if !isBitProofIn(seal, b.Proofs[i]) {
			return false
		}
	}
	return productIn(b.Seals...) == sealIn(1, b.Key)
}

func cloneProof(p impl.BitProof) impl.BitProof {
	return impl.BitProof{Marks: slices.Clone(p.Marks), Challenges: slices.Clone(p.Challenges), Answers: slices.Clone(p.Answers)}
}

func cloneBallot(b impl.Ballot) impl.Ballot {
	copied := impl.Ballot{Seals: slices.Clone(b.Seals), Key: b.Key}
	for _, p := range b.Proofs {
		copied.Proofs = append(copied.Proofs, cloneProof(p))
	}
	return copied
}

func sameProof(a, b impl.BitProof) bool {
	return slices.Equal(a.Marks, b.Marks) && slices.Equal(a.Challenges, b.Challenges) && slices.Equal(a.Answers, b.Answers)
}

func sameBallot(a, b impl.Ballot) bool {
	return slices.Equal(a.Seals, b.Seals) && slices.EqualFunc(a.Proofs, b.Proofs, sameProof) && a.Key == b.Key
}

// edgeExponents are at the bounds or make products great.
func edgeExponents() []int64 { return []int64{0, 1, 2, half / 2, half - 2, half - 1} }

// notExponents are beyond the bounds; some are equal to exponents modulo SealOrder or 2^32.
func notExponents() []int64 {
	return []int64{-1, -half, half, half + 1, 2*half - 1, 2 * half, prime, 1 << 32, 1 << 62, math.MaxInt64, math.MinInt64}
}

// notSeals are no seals; some are equal to seals modulo SealModulus or 2^32.
func notSeals() []int64 {
	return []int64{0, -1, 5, 10, -4, -9, 1 - prime, prime - 1, prime - 4, prime - 9, prime, prime + 1, prime + 4, 2*prime + 9, 1<<32 + 4, 1<<63 - 1, math.MinInt64}
}

// notWeights are beyond the bounds.
func notWeights() []int64 { return []int64{-1, -1000, 1001, 1 << 32, math.MaxInt64, math.MinInt64} }

// edgeOr returns one of a list, or at times any other number below a bound.
func edgeOr(random *rand.Rand, edges []int64, bound int64) int64 {
	if random.Intn(3) > 0 {
		return random.Int63n(bound)
	}
	return edges[random.Intn(len(edges))]
}

func randomExponent(random *rand.Rand) int64 { return edgeOr(random, edgeExponents(), half) }

func randomWeight(random *rand.Rand) int64 {
	return edgeOr(random, []int64{0, 1, 999, impl.MaxWeight}, impl.MaxWeight+1)
}

func randomVote(random *rand.Rand) int64 { return random.Int63n(3) }

// randomList returns so many numbers.
func randomList(random *rand.Rand, count int, number func(random *rand.Rand) int64) []int64 {
	list := make([]int64, count)
	for i := range list {
		list[i] = number(random)
	}
	return list
}

// randomLists returns so many lists of three exponents.
func randomLists(random *rand.Rand, count int) [][]int64 {
	lists := make([][]int64, count)
	for i := range lists {
		lists[i] = randomList(random, 3, randomExponent)
	}
	return lists
}

// ballotIn returns the ballot whose seals have three values with three keys. The proofs are those of the bits; other values have
// none, and their proofs are wrong.
func ballotIn(values, keys []int64, nonces [][]int64) impl.Ballot {
	b := impl.Ballot{}
	for i, value := range values {
		seal := sealIn(value, keys[i])
		b.Seals = append(b.Seals, seal)
		b.Proofs = append(b.Proofs, provedIn(seal, int(value&1), keys[i], nonces[i]))
		b.Key = exponentIn([2]int64{b.Key, 1}, [2]int64{keys[i], 1})
	}
	return b
}

// votedIn returns the ballot for a vote.
func votedIn(vote int64, keys []int64, nonces [][]int64) impl.Ballot {
	values := make([]int64, 3)
	values[vote] = 1
	return ballotIn(values, keys, nonces)
}

// randomBallots returns ballots for votes, and their keys.
func randomBallots(random *rand.Rand, votes []int64) ([]impl.Ballot, [][]int64) {
	var ballots []impl.Ballot
	keys := randomLists(random, len(votes))
	for i, vote := range votes {
		ballots = append(ballots, votedIn(vote, keys[i], randomLists(random, 3)))
	}
	return ballots, keys
}

// column returns the numbers with an index in all rows.
func column(rows [][]int64, index int) []int64 {
	var list []int64
	for _, row := range rows {
		list = append(list, row[index])
	}
	return list
}

// joinedKeys returns for each index the sum of the keys of all rows, each times the weight of the row.
func joinedKeys(keys [][]int64, weights []int64) []int64 {
	sums := make([]int64, 3)
	for i, weight := range weights {
		for vote, key := range keys[i] {
			sums[vote] = exponentIn([2]int64{sums[vote], 1}, [2]int64{weight, key})
		}
	}
	return sums
}

// countIn returns the sums of the weights of the votes.
func countIn(votes, weights []int64) []int64 {
	sums := make([]int64, 3)
	for i, vote := range votes {
		sums[vote] += weights[i]
	}
	return sums
}
