package tests

import (
	"fmt"
	"math/rand"
	"slices"
	"testing"

	"loop.example/g01095/impl"
)

// expectProof is expect for proofs.
func expectProof(t *testing.T, what string, got impl.BitProof, ok bool, want impl.BitProof, wantOK bool) {
	t.Helper()
	if !sameProof(got, want) || ok != wantOK {
		t.Errorf("%s: got %v, %v, want %v, %v", what, got, ok, want, wantOK)
	}
}

// checkBitProof checks whether a proof is one for a seal.
func checkBitProof(t *testing.T, what string, seal int64, p impl.BitProof, want bool) {
	t.Helper()
	if got := impl.IsBitProof(seal, p); got != want {
		t.Errorf("%s: IsBitProof %d of %v is %v", what, seal, p, got)
	}
}

func TestProveBit(t *testing.T) {
	random := rand.New(rand.NewSource(210))
	for i := range 2000 {
		bit, key, nonces := i%2, randomExponent(random), randomList(random, 3, randomExponent)
		seal, what := sealIn(int64(bit), key), fmt.Sprint("ProveBit ", bit, key, nonces)
		got, ok := impl.ProveBit(int64(bit), key, nonces)
		expectProof(t, what, got, ok, provedIn(seal, bit, key, nonces), true)
		checkBitProof(t, what, seal, got, true)
		checkBitProof(t, what+", for another value", sealIn(1-int64(bit), key), got, false)
		checkBitProof(t, what+", for another key", sealIn(int64(bit), key+1), got, false)
	}
}

func TestProveBitCases(t *testing.T) {
	proof := func(numbers ...int64) impl.BitProof {
		return impl.BitProof{Marks: numbers[:2], Challenges: numbers[2:4], Answers: numbers[4:]}
	}
	for _, c := range []struct {
		name     string
		bit, key int64
		nonces   []int64
		want     impl.BitProof
	}{
		{"the bit 0 with zeros only", 0, 0, []int64{0, 0, 0}, proof(1, 1, 202610467, 0, 0, 0)},
		{"the bit 1 with zeros only", 1, 0, []int64{0, 0, 0}, proof(1, 1, 0, challengeIn(4, 1, 1), 0, 0)},
		{"the bit 0, with the nonces in their places", 0, 0, []int64{1, 2, 3}, proof(9, productIn(729, 16), challengeIn(1, 9, 11664)-2, 2, 1, 3)},
		{"the bit 1, with the nonces in their places", 1, 0, []int64{1, 1, 2}, proof(productIn(81, powerIn(4, -1)), 9, 1, challengeIn(4, productIn(81, powerIn(4, -1)), 9)-1, 2, 1)},
	} {
		got, ok := impl.ProveBit(c.bit, c.key, c.nonces)
		expectProof(t, c.name, got, ok, c.want, true)
		checkBitProof(t, c.name, sealIn(c.bit, c.key), got, true)
	}
	for _, bit := range []int64{0, 1} {
		for _, key := range edgeExponents() {
			for _, nonces := range [][]int64{{0, 0, half - 1}, {0, half - 1, 0}, {half - 1, 0, 0}, {half - 1, half - 1, half - 1}} {
				got, ok := impl.ProveBit(bit, key, nonces)
				expectProof(t, fmt.Sprint("ProveBit ", bit, key, nonces), got, ok, provedIn(sealIn(bit, key), int(bit), key, nonces), true)
			}
		}
	}
}

func TestProveBitRefuses(t *testing.T) {
	refused := func(what string, bit, key int64, nonces []int64) {
		t.Helper()
		got, ok := impl.ProveBit(bit, key, nonces)
		expectProof(t, fmt.Sprint("ProveBit with ", what, bit, key, nonces), got, ok, impl.BitProof{}, false)
	}
	zeros := make([]int64, 3)
	for _, bit := range append(notExponents(), 2, 3, half-1) {
		refused("a bit that is none", bit, 0, zeros)
	}
	for _, bit := range []int64{0, 1} {
		for _, n := range notExponents() {
			refused("a key that is no exponent", bit, n, zeros)
			for i := range 3 {
				nonces := slices.Clone(zeros)
				nonces[i] = n
				refused("a nonce that is no exponent", bit, 0, nonces)
			}
		}
		for _, length := range []int{0, 1, 2, 4, 5, 100} {
			refused("as many nonces", bit, 0, make([]int64, length))
		}
		refused("no nonces", bit, 0, nil)
	}
}

// listsOf returns the lists of a proof, which can be changed in it.
func listsOf(p *impl.BitProof) []*[]int64 { return []*[]int64{&p.Marks, &p.Challenges, &p.Answers} }

// changedProofs returns proofs in which one list or one number is another one.
func changedProofs(p impl.BitProof) map[string]impl.BitProof {
	changed := map[string]impl.BitProof{}
	add := func(what string, list int, change func(list []int64) []int64) {
		copied := cloneProof(p)
		*listsOf(&copied)[list] = change(*listsOf(&copied)[list])
		changed[fmt.Sprint(what, " in list ", list)] = copied
	}
	for list := range 3 {
		add("nothing", list, func([]int64) []int64 { return nil })
		add("one number", list, func(list []int64) []int64 { return list[:1] })
		add("a third number", list, func(list []int64) []int64 { return append(list, 1) })
		add("the numbers in the other order", list, func(list []int64) []int64 { return []int64{list[1], list[0]} })
		for i := range 2 {
			number := (*listsOf(&p)[list])[i]
			for _, n := range append(notExponents(), 0, 1, number+1, number-1, number+half, number-half, number+prime, number-prime, prime-number, half-number, -number, number+1<<32) {
				add(fmt.Sprint(n, " at ", i), list, func(list []int64) []int64 {
					list[i] = n
					return list
				})
			}
		}
	}
	return changed
}

func TestChangedProofs(t *testing.T) {
	random := rand.New(rand.NewSource(211))
	for i := range 100 {
		bit, key := i%2, randomExponent(random)
		seal := sealIn(int64(bit), key)
		p := provedIn(seal, bit, key, randomList(random, 3, randomExponent))
		for what, changed := range changedProofs(p) {
			checkBitProof(t, what, seal, changed, isBitProofIn(seal, changed))
			if isBitProofIn(seal, changed) && !sameProof(changed, p) {
				t.Errorf("%s: %v is a proof like %v", what, changed, p)
			}
		}
		for _, n := range append(notSeals(), seal-prime, seal+prime, prime-seal, -seal, 1, 4, 9, seal) {
			checkBitProof(t, "another seal", n, p, isBitProofIn(n, p))
		}
	}
}

// withMarks returns the proof with some challenges and answers that meets the conditions of both bits.
func withMarks(seal int64, challenges, answers []int64) impl.BitProof {
	p := impl.BitProof{Challenges: challenges, Answers: answers}
	for bit := range 2 {
		p.Marks = append(p.Marks, markIn(seal, bit, challenges[bit], answers[bit]))
	}
	return p
}

// Each case breaks one condition only.
func TestProofsThatBreakOneCondition(t *testing.T) {
	random := rand.New(rand.NewSource(212))
	for range 200 {
		key := random.Int63n(half)
		seal := sealIn(0, key)
		p := withMarks(seal, randomList(random, 2, randomExponent), randomList(random, 2, randomExponent))
		checkBitProof(t, "challenges with another sum", seal, p, false)
		p = withMarks(seal, []int64{0, 0}, randomList(random, 2, randomExponent))
		checkBitProof(t, "challenges that are both 0", seal, p, false)

		for list := range 3 {
			for i := range 2 {
				p := provedIn(seal, 0, key, randomList(random, 3, randomExponent))
				(*listsOf(&p)[list])[i] = randomExponent(random)
				checkBitProof(t, fmt.Sprint("another number at ", list, i), seal, p, isBitProofIn(seal, p))
			}
		}

		p = provedIn(seal, 0, key, randomList(random, 3, randomExponent))
		for list, beyond := range []int64{prime, half, half} {
			for i := range 2 {
				for _, n := range []int64{beyond, -beyond} {
					// This number stands for the same seal or exponent, but is none.
					changed := cloneProof(p)
					(*listsOf(&changed)[list])[i] += n
					checkBitProof(t, fmt.Sprint("a number beyond its bounds at ", list, i), seal, changed, false)
				}
			}
		}
	}
}

// A mark beyond its bounds has no challenge; this must not count as the challenge 0, or as the one without the bounds.
func TestMarksBeyondTheirBounds(t *testing.T) {
	random := rand.New(rand.NewSource(213))
	for range 100 {
		seal := sealIn(randomExponent(random), randomExponent(random))
		challenge := 1 + random.Int63n(half-1)
		p := withMarks(seal, []int64{challenge, half - challenge}, randomList(random, 2, randomExponent))
		for i := range 2 {
			changed := cloneProof(p)
			changed.Marks[i] += prime
			checkBitProof(t, "a mark beyond its bounds", seal, changed, false)
			checkBitProof(t, "a seal beyond its bounds", seal+prime, p, false)

			key := randomExponent(random)
			bit := sealIn(int64(1-i), key)
			mark := markIn(bit, i, challenge, 5) + prime
			other := powerIn(9, 6)
			marks := []int64{other, other}
			marks[i] = mark
			rest := exponentIn([2]int64{challengeIn(bit, marks[0], marks[1]), 1}, [2]int64{-challenge, 1})
			changed = impl.BitProof{Marks: marks, Challenges: []int64{rest, rest}, Answers: make([]int64, 2)}
			changed.Challenges[i], changed.Answers[i] = challenge, 5
			changed.Answers[1-i] = exponentIn([2]int64{6, 1}, [2]int64{rest, key})
			checkBitProof(t, "a mark beyond its bounds, with its challenge", bit, changed, false)
			if changed.Marks[i] -= prime; powerIn(9, changed.Answers[1-i]) != productIn(other, powerIn(bareSeal(bit, 1-i), rest)) {
				t.Error("the proof breaks another condition, too")
			}
		}
	}
}

// The conditions can be met for a number that is no seal, but is the opposite of one, if both challenges are even.
func TestProofsForNoSeals(t *testing.T) {
	random := rand.New(rand.NewSource(214))
	found := 0
	for range 200 {
		key := random.Int63n(half)
		opposite := prime - sealIn(0, key)
		nonces := randomList(random, 3, func(random *rand.Rand) int64 { return 2 * random.Int63n(half/2) })
		p := provedIn(opposite, 0, key, nonces)
		if p.Challenges[0]%2 == 0 {
			found++
			for i := range 2 {
				if !isSealIn(p.Marks[i]) || p.Marks[i] != markIn(opposite, i, p.Challenges[i], p.Answers[i]) {
					t.Errorf("the proof %v for %d breaks another condition, too", p, opposite)
				}
			}
			checkBitProof(t, "the opposite of a seal", opposite, p, false)
		}
	}
	if found < 50 {
		t.Errorf("only %d proofs for numbers that are no seals", found)
	}
}

// Where the challenge is 0, two challenges of 0 meet all conditions, whatever the value of the seal is.
func TestProofsWithTheChallengeZero(t *testing.T) {
	random := rand.New(rand.NewSource(215))
	found := 0
	for range 60 {
		seal, answer := sealIn(2, randomExponent(random)), randomExponent(random)
		first := powerIn(9, answer)
		// The last mark is the number that makes the challenge 0, if it is a seal.
		mark := exponentIn([2]int64{-challengeIn(seal, first), 1000003}, [2]int64{-1, 1})
		for _, mark := range []int64{mark, mark + half} {
			if !isSealIn(mark) {
				continue
			}
			found++
			p := impl.BitProof{Marks: []int64{first, mark}, Challenges: []int64{0, 0}, Answers: []int64{answer, keyIn(mark)}}
			checkBitProof(t, "the challenge 0", seal, p, true)
			p.Challenges = []int64{1, half - 1}
			checkBitProof(t, "the challenge 0, with other challenges", seal, p, false)
		}
	}
	if found < 20 {
		t.Errorf("only %d proofs with the challenge 0", found)
	}
}

// Both challenges may add up to the challenge or to SealOrder more.
func TestSumsOfChallenges(t *testing.T) {
	random := rand.New(rand.NewSource(216))
	beyond := 0
	for i := range 200 {
		bit, key := i%2, randomExponent(random)
		seal := sealIn(int64(bit), key)
		p := provedIn(seal, bit, key, []int64{random.Int63n(half), half - 1 - random.Int63n(1000), random.Int63n(half)})
		if p.Challenges[0]+p.Challenges[1] >= half {
			beyond++
		}
		checkBitProof(t, "great challenges", seal, p, true)
		p = provedIn(seal, bit, key, []int64{random.Int63n(half), 0, random.Int63n(half)})
		checkBitProof(t, "a challenge of 0", seal, p, true)
	}
	if beyond < 150 {
		t.Errorf("only %d sums beyond SealOrder", beyond)
	}
}
