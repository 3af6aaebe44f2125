package tests

import (
	"math/big"
	"slices"

	"loop.example/g01095/impl"
)

// adoptedIn reports whether there is more weight for yes than for no.
func adoptedIn(votes, weights []int64) bool {
	sums := countIn(votes, weights)
	return sums[impl.BallotYes] > sums[impl.BallotNo]
}

// marginByTrial tries all other votes, and returns the least number of them that differ and have another result.
func marginByTrial(votes, weights []int64) (int64, bool) {
	least := int64(-1)
	other := make([]int64, len(votes))
	var try func(i int, changed int64)
	try = func(i int, changed int64) {
		if i == len(votes) {
			if adoptedIn(other, weights) != adoptedIn(votes, weights) && (least < 0 || changed < least) {
				least = changed
			}
			return
		}
		for vote := range int64(3) {
			other[i] = vote
			if vote == votes[i] {
				try(i+1, changed)
			} else {
				try(i+1, changed+1)
			}
		}
	}
	try(0, 0)
	return max(least, 0), least >= 0
}

// lead returns what a vote adds to the lead of yes.
func lead(vote, weight int64) int64 {
	switch vote {
	case impl.BallotYes:
		return weight
	case impl.BallotNo:
		return -weight
	}
	return 0
}

// marginIn finds, vote by vote, the least and the greatest lead of yes that so many changes lead to.
func marginIn(votes, weights []int64) (int64, bool) {
	lowest, highest := make([]int64, 1), make([]int64, 1)
	for i, vote := range votes {
		kept, weight := lead(vote, weights[i]), weights[i]
		nextLowest, nextHighest := make([]int64, i+2), make([]int64, i+2)
		for k := range i + 2 {
			var lows, highs []int64
			if k <= i {
				lows, highs = append(lows, lowest[k]+kept), append(highs, highest[k]+kept)
			}
			if k > 0 {
				lows, highs = append(lows, lowest[k-1]-weight), append(highs, highest[k-1]+weight)
			}
			nextLowest[k], nextHighest[k] = slices.Min(lows), slices.Max(highs)
		}
		lowest, highest = nextLowest, nextHighest
	}
	for k := range lowest {
		if adoptedIn(votes, weights) && lowest[k] <= 0 || !adoptedIn(votes, weights) && highest[k] > 0 {
			return int64(k), true
		}
	}
	return 0, false
}

// riskIn is the chance of a sample without a wrong ballot, drawn one ballot after another.
func riskIn(ballots, wrong, sample int64) *big.Rat {
	risk := big.NewRat(1, 1)
	for drawn := range sample {
		risk.Mul(risk, big.NewRat(max(ballots-wrong-drawn, 0), ballots-drawn))
	}
	return risk
}

// sampleIn returns the least sample with a risk within a limit.
func sampleIn(ballots, wrong int64, limit *big.Rat) (int64, bool) {
	for sample := int64(0); sample <= ballots; sample++ {
		if riskIn(ballots, wrong, sample).Cmp(limit) <= 0 {
			return sample, true
		}
	}
	return 0, false
}

// auditOrderIn exchanges ballots as the document describes it.
func auditOrderIn(key, ballots int64) []int64 {
	order := others(int(ballots), -1)
	s := big.NewInt(key)
	for i := ballots - 1; i >= 1; i-- {
		s.Mul(s, big.NewInt(48271)).Add(s, big.NewInt(11)).Mod(s, big.NewInt(2147483647))
		other := modulo(s, i+1)
		order[i], order[other] = order[other], order[i]
	}
	return order
}

// auditIn returns how many ballots an audit examines, and the result, if there is a sample.
func auditIn(reported, actual, weights []int64, key int64, limit *big.Rat) (int64, bool, bool) {
	ballots := int64(len(reported))
	margin, hasMargin := marginIn(reported, weights)
	if !hasMargin {
		return 0, adoptedIn(reported, weights), true
	}
	sample, ok := sampleIn(ballots, margin, limit)
	if !ok {
		return 0, false, false
	}
	for _, ballot := range auditOrderIn(key, ballots)[:sample] {
		if reported[ballot] != actual[ballot] {
			return ballots, adoptedIn(actual, weights), true
		}
	}
	return sample, adoptedIn(reported, weights), true
}

// justBelow returns the greatest fraction with some multiple of the denominator that is less than a given one.
func justBelow(f impl.Fraction) impl.Fraction {
	times := impl.MaxTerm / max(f.Num, f.Den)
	below, _ := impl.FractionOf(f.Num*times-1, f.Den*times)
	return below
}
