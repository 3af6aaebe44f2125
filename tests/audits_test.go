package tests

import (
	"fmt"
	"math"
	"math/big"
	"math/rand"
	"slices"
	"testing"

	"loop.example/g01095/impl"
)

// randomAudited returns votes with weights, the sums of which are equal at times.
func randomAudited(random *rand.Rand, count int) (votes, weights []int64) {
	votes = randomList(random, count, randomVote)
	switch random.Intn(3) {
	case 0:
		weights = randomList(random, count, randomWeight)
	case 1:
		weights = slices.Repeat([]int64{1}, count)
	default:
		weights = randomList(random, count, func(random *rand.Rand) int64 { return random.Int63n(4) })
	}
	if random.Intn(4) == 0 {
		// Nearly all votes are the same.
		vote := randomVote(random)
		for i := range votes {
			if random.Intn(5) > 0 {
				votes[i] = vote
			}
		}
	}
	return votes, weights
}

// checkMargin compares AdoptedBy and MarginOf.
func checkMargin(t *testing.T, votes, weights []int64, margin int64, hasMargin bool) {
	t.Helper()
	what := fmt.Sprint(votes, weights)
	adopted, ok := impl.AdoptedBy(votes, weights)
	expect(t, "AdoptedBy "+what, adopted, ok, adoptedIn(votes, weights), true)
	got, ok := impl.MarginOf(votes, weights)
	expect(t, "MarginOf "+what, got, ok, margin, hasMargin)
}

func TestMarginsOfFewVotes(t *testing.T) {
	weights := []int64{0, 1, 2, 5}
	var check func(votes, own []int64)
	check = func(votes, own []int64) {
		margin, ok := marginByTrial(votes, own)
		checkMargin(t, votes, own, margin, ok)
		if margin2, ok2 := marginIn(votes, own); margin2 != margin || ok2 != ok {
			t.Errorf("the margin of %v, %v is %d, %v by trial, and otherwise %d, %v", votes, own, margin, ok, margin2, ok2)
		}
		if len(votes) == 4 {
			return
		}
		for vote := range int64(3) {
			for _, weight := range weights {
				check(append(slices.Clone(votes), vote), append(slices.Clone(own), weight))
			}
		}
	}
	check(nil, nil)
}

func TestMarginsOfManyVotes(t *testing.T) {
	random := rand.New(rand.NewSource(240))
	for count := range impl.MaxAudited + 1 {
		for range 200 {
			votes, weights := randomAudited(random, count)
			margin, ok := marginIn(votes, weights)
			checkMargin(t, votes, weights, margin, ok)
		}
	}
}

func TestMarginCases(t *testing.T) {
	for _, c := range []struct {
		name           string
		votes, weights []int64
		isAdopted      bool
		margin         int64
	}{
		{"the document's example", []int64{1, 1, 1, 0}, []int64{1, 1, 1, 1}, true, 1},
		{"no votes", nil, nil, false, 0},
		{"no votes, in empty lists", []int64{}, []int64{}, false, 0},
		{"one vote yes", []int64{1}, []int64{1}, true, 1},
		{"one vote no", []int64{0}, []int64{1}, false, 1},
		{"one blank vote", []int64{2}, []int64{1}, false, 1},
		{"one vote yes with the weight 0", []int64{1}, []int64{0}, false, 0},
		{"one vote no with the weight 0", []int64{0}, []int64{0}, false, 0},
		{"blank votes with the weight 0", []int64{2, 2, 2}, []int64{0, 0, 0}, false, 0},
		{"yes and no with equal weights", []int64{1, 0}, []int64{5, 5}, false, 1},
		{"yes and no with equal weights, of several votes", []int64{1, 0, 0, 1}, []int64{5, 4, 2, 1}, false, 1},
		{"one more for yes", []int64{1, 0}, []int64{6, 5}, true, 1},
		{"one more for no", []int64{1, 0}, []int64{5, 6}, false, 1},
		{"all votes no", []int64{0, 0, 0}, []int64{1, 1, 1}, false, 2},
		{"all votes yes", []int64{1, 1, 1}, []int64{1, 1, 1}, true, 2},
		{"all votes blank", []int64{2, 2, 2}, []int64{1, 1, 1}, false, 1},
		{"an even number of votes yes", []int64{1, 1, 1, 1}, []int64{1, 1, 1, 1}, true, 2},
		{"an even number of votes no", []int64{0, 0, 0, 0}, []int64{1, 1, 1, 1}, false, 3},
		{"all two votes must be changed", []int64{0, 0}, []int64{1, 1}, false, 2},
		{"only one vote has a weight", []int64{0, 0, 0}, []int64{0, 0, 7}, false, 1},
		{"only one vote has a weight and is yes", []int64{0, 1, 0}, []int64{0, 7, 0}, true, 1},
		{"a heavy blank vote", []int64{0, 2, 0}, []int64{2, 5, 2}, false, 1},
		{"a blank vote that is too light", []int64{0, 2, 0}, []int64{2, 4, 2}, false, 2},
		{"a blank vote against yes that is heavy enough", []int64{1, 2}, []int64{5, 5}, true, 1},
		{"blank votes do not matter", []int64{1, 2, 2, 2}, []int64{1, 1000, 1000, 1000}, true, 1},
		{"half of the weight is in one vote", []int64{1, 0, 0, 0}, []int64{3, 1, 1, 1}, false, 1},
		{"MaxAudited votes with MaxWeight", slices.Repeat([]int64{1}, 30), slices.Repeat([]int64{1000}, 30), true, 15},
		{"MaxAudited votes no with MaxWeight", slices.Repeat([]int64{0}, 30), slices.Repeat([]int64{1000}, 30), false, 16},
	} {
		adopted, ok := impl.AdoptedBy(c.votes, c.weights)
		expect(t, c.name+": AdoptedBy", adopted, ok, c.isAdopted, true)
		margin, ok := impl.MarginOf(c.votes, c.weights)
		expect(t, c.name+": MarginOf", margin, ok, c.margin, c.margin > 0)
	}
	for name, c := range votesRefused() {
		adopted, ok := impl.AdoptedBy(c[0], c[1])
		expect(t, "AdoptedBy with "+name, adopted, ok, false, false)
		margin, ok := impl.MarginOf(c[0], c[1])
		expect(t, "MarginOf with "+name, margin, ok, 0, false)
	}
}

func TestRiskOf(t *testing.T) {
	far := []int64{math.MinInt64, math.MaxInt64, 1 << 32, -1 << 32}
	for _, ballots := range append(others(34, -1), append(far, -1, -2)...) {
		for _, wrong := range append(others(34, -1), append(far, -1)...) {
			for _, sample := range append(others(34, -1), append(far, -1)...) {
				got, ok := impl.RiskOf(ballots, wrong, sample)
				isRisk := ballots >= 0 && ballots <= 30 && wrong >= 0 && wrong <= ballots && sample >= 0 && sample <= ballots
				want := frac(0, 0)
				if isRisk {
					sets := new(big.Rat).SetFrac(new(big.Int).Binomial(ballots-wrong, sample), new(big.Int).Binomial(ballots, sample))
					want, _ = fitting(sets)
					if sets.Cmp(riskIn(ballots, wrong, sample)) != 0 {
						t.Errorf("the chance for %d, %d, %d is %v by sets", ballots, wrong, sample, sets)
					}
				}
				expect(t, fmt.Sprint("RiskOf ", ballots, wrong, sample), got, ok, want, isRisk)
			}
		}
	}
}

// All samples of few ballots are drawn.
func TestRiskOfAllSamples(t *testing.T) {
	for ballots := range int64(9) {
		for wrong := range ballots + 1 {
			for sample := range ballots + 1 {
				all := combinations(ballots, sample)
				right := slices.DeleteFunc(slices.Clone(all), func(set []int64) bool { return bothIn(set, others(int(wrong), -1)) > 0 })
				got, ok := impl.RiskOf(ballots, wrong, sample)
				expectFractions(t, fmt.Sprint("RiskOf ", ballots, wrong, sample), []impl.Fraction{got}, ok, []*big.Rat{big.NewRat(int64(len(right)), int64(len(all)))})
			}
		}
	}
}

func TestRiskOfCases(t *testing.T) {
	for _, c := range []struct {
		name                   string
		ballots, wrong, sample int64
		want                   impl.Fraction
	}{
		{"the document's example", 5, 2, 2, frac(3, 10)},
		{"no ballots", 0, 0, 0, frac(1, 1)},
		{"no sample", 5, 2, 0, frac(1, 1)},
		{"no sample of wrong ballots", 5, 5, 0, frac(1, 1)},
		{"no wrong ballot", 5, 0, 5, frac(1, 1)},
		{"all wrong", 5, 5, 1, frac(0, 1)},
		{"a sample of all ballots", 5, 1, 5, frac(0, 1)},
		{"as many as are right", 5, 2, 3, frac(1, 10)},
		{"one more than are right", 5, 2, 4, frac(0, 1)},
		{"one of MaxAudited", 30, 1, 29, frac(1, 30)},
		{"half of MaxAudited", 30, 15, 15, frac(1, 155117520)},
		{"more wrong than there are ballots", 5, 6, 0, frac(0, 0)},
		{"a sample of more than all ballots", 5, 0, 6, frac(0, 0)},
		{"one ballot more than MaxAudited", 31, 1, 1, frac(0, 0)},
		{"a negative number of wrong ballots", 5, -1, 1, frac(0, 0)},
		{"a negative sample", 5, 1, -1, frac(0, 0)},
		{"a negative number of ballots", -1, 0, 0, frac(0, 0)},
		{"negative numbers", -1, -1, -1, frac(0, 0)},
	} {
		got, ok := impl.RiskOf(c.ballots, c.wrong, c.sample)
		expect(t, c.name, got, ok, c.want, c.want.Den > 0)
	}
}

// The least sample is that of the limit exactly if one less has a greater risk.
func TestSampleFor(t *testing.T) {
	random := rand.New(rand.NewSource(241))
	for _, ballots := range []int64{0, 1, 2, 3, 4, 5, 8, 13, 29, 30} {
		for wrong := range ballots + 1 {
			limits := []impl.Fraction{frac(0, 1), frac(1, 1), frac(2, 1), frac(-1, 1), frac(-1, impl.MaxTerm), frac(1, impl.MaxTerm), frac(1, 20), frac(impl.MaxTerm, 1), frac(-impl.MaxTerm, 1)}
			for sample := range ballots + 1 {
				risk, _ := fitting(riskIn(ballots, wrong, sample))
				limits = append(limits, risk, justBelow(risk))
				if other, ok := impl.FractionOf(random.Int63n(impl.MaxTerm), 1+random.Int63n(impl.MaxTerm)); ok {
					limits = append(limits, other)
				}
			}
			for _, limit := range limits {
				want, wantOK := sampleIn(ballots, wrong, exact(limit))
				got, ok := impl.SampleFor(ballots, wrong, limit)
				expect(t, fmt.Sprint("SampleFor ", ballots, wrong, limit), got, ok, want, wantOK)
			}
		}
	}
}

// notFractions are no valid fractions; some would be limits if they were.
func notFractions() []impl.Fraction {
	return []impl.Fraction{{}, frac(1, 0), frac(2, 4), frac(0, 2), frac(-1, -2), frac(1, -2), frac(5, 5), frac(1, impl.MaxTerm+1), frac(impl.MaxTerm+1, 1), frac(-impl.MaxTerm-1, 1), frac(math.MaxInt64, 1), frac(1, math.MinInt64), frac(math.MinInt64, math.MinInt64)}
}

func TestSampleForCases(t *testing.T) {
	for _, c := range []struct {
		name           string
		ballots, wrong int64
		limit          impl.Fraction
		want           int64
	}{
		{"just the risk", 5, 2, frac(3, 10), 2},
		{"just below the risk", 5, 2, frac(299999999, 1000000000), 3},
		{"just above the risk", 5, 2, frac(300000001, 1000000000), 2},
		{"just above a greater risk", 5, 2, frac(599999999, 1000000000), 2},
		{"a greater risk", 5, 2, frac(3, 5), 1},
		{"the limit 0", 5, 2, frac(0, 1), 4},
		{"the limit 0 with all ballots wrong", 5, 5, frac(0, 1), 1},
		{"the limit 0 with one ballot wrong", 5, 1, frac(0, 1), 5},
		{"the limit 1", 5, 2, frac(1, 1), 0},
		{"the limit 1 with no ballot wrong", 5, 0, frac(1, 1), 0},
		{"the limit 1 and no ballots", 0, 0, frac(1, 1), 0},
		{"a limit beyond 1", 5, 2, frac(3, 2), 0},
		{"just below 1", 5, 2, frac(999999999, 1000000000), 1},
		{"all of MaxAudited", 30, 1, frac(1, 31), 30},
		{"all but one of MaxAudited", 30, 1, frac(1, 30), 29},
		{"no ballot wrong", 5, 0, frac(1, 2), -1},
		{"no ballots", 0, 0, frac(1, 2), -1},
		{"no ballots and the limit 0", 0, 0, frac(0, 1), -1},
		{"a negative limit", 5, 2, frac(-1, 1000000000), -1},
		{"a negative limit with all ballots wrong", 5, 5, frac(-1, 2), -1},
		{"more wrong than there are ballots", 5, 6, frac(1, 1), -1},
		{"a negative number of wrong ballots", 5, -1, frac(1, 1), -1},
		{"a negative number of ballots", -1, 0, frac(1, 1), -1},
		{"negative numbers", -1, -1, frac(1, 1), -1},
		{"one ballot more than MaxAudited", 31, 1, frac(1, 1), -1},
		{"a far number of ballots", math.MaxInt64, 1, frac(1, 1), -1},
		{"far negative numbers", math.MinInt64, math.MinInt64, frac(1, 1), -1},
	} {
		got, ok := impl.SampleFor(c.ballots, c.wrong, c.limit)
		expect(t, c.name, got, ok, max(c.want, 0), c.want >= 0)
	}
	for _, limit := range notFractions() {
		for _, ballots := range []int64{0, 1, 5, 30} {
			for _, wrong := range []int64{0, ballots / 2, ballots} {
				got, ok := impl.SampleFor(ballots, wrong, limit)
				expect(t, fmt.Sprint("SampleFor ", ballots, wrong, limit), got, ok, 0, false)
			}
		}
	}
}

func TestAuditOrder(t *testing.T) {
	random := rand.New(rand.NewSource(242))
	keys := append(randomList(random, 100, func(random *rand.Rand) int64 { return random.Int63n(impl.MaxAuditKey + 1) }), 0, 1, 2, impl.MaxAuditKey-1, impl.MaxAuditKey)
	for _, key := range keys {
		for ballots := range int64(31) {
			got, ok := impl.AuditOrder(key, ballots)
			what := fmt.Sprint("AuditOrder ", key, ballots)
			expectList(t, what, got, ok, auditOrderIn(key, ballots), true)
			sorted := slices.Sorted(slices.Values(got))
			expectList(t, what+" sorted", sorted, ok, others(int(ballots), -1), true)
		}
	}
}

func TestAuditOrderCases(t *testing.T) {
	for _, c := range []struct {
		key, ballots int64
		want         []int64
		ok           bool
	}{
		{0, 0, nil, true}, {0, 1, []int64{0}, true}, {impl.MaxAuditKey, 1, []int64{0}, true}, {0, 2, []int64{0, 1}, true}, {1, 2, []int64{1, 0}, true},
		{0, 3, []int64{1, 0, 2}, true}, {0, 5, []int64{3, 2, 4, 0, 1}, true}, {impl.MaxAuditKey, 2, []int64{0, 1}, true}, {impl.MaxAuditKey, 0, nil, true},
		{impl.MaxAuditKey + 1, 3, nil, false}, {impl.MaxAuditKey + 1, 0, nil, false}, {-1, 3, nil, false}, {-1, 0, nil, false}, {math.MaxInt64, 3, nil, false}, {math.MinInt64, 3, nil, false},
		{0, 31, nil, false}, {0, -1, nil, false}, {0, math.MaxInt64, nil, false}, {0, math.MinInt64, nil, false}, {0, 1 << 32, nil, false},
	} {
		got, ok := impl.AuditOrder(c.key, c.ballots)
		expectList(t, fmt.Sprint("AuditOrder ", c.key, c.ballots), got, ok, c.want, c.ok)
	}
}

// checkAudit compares what an audit examines and finds.
func checkAudit(t *testing.T, reported, actual, weights []int64, key int64, limit impl.Fraction) {
	t.Helper()
	what := fmt.Sprint("RunAudit ", reported, actual, weights, key, limit)
	examined, adopted, ok := impl.RunAudit(reported, actual, weights, key, limit)
	wantExamined, wantAdopted, wantOK := auditIn(reported, actual, weights, key, exact(limit))
	expect(t, what+": examined", examined, ok, wantExamined, wantOK)
	expect(t, what+": adopted", adopted, ok, wantAdopted, wantOK)
}

func TestRunAudit(t *testing.T) {
	random := rand.New(rand.NewSource(243))
	for count := range impl.MaxAudited + 1 {
		for range 200 {
			reported, weights := randomAudited(random, count)
			actual := slices.Clone(reported)
			for range random.Intn(4) * random.Intn(4) {
				if count > 0 {
					actual[random.Intn(count)] = randomVote(random)
				}
			}
			limits := []impl.Fraction{frac(0, 1), frac(1, 2), frac(1, 10), frac(1, 1000), frac(1, 1), frac(9, 10), frac(-1, 2)}
			for _, limit := range limits {
				checkAudit(t, reported, actual, weights, random.Int63n(impl.MaxAuditKey+1), limit)
			}
		}
	}
}

func TestRunAuditCases(t *testing.T) {
	half, none := frac(1, 2), frac(0, 1)
	ones := []int64{1, 1, 1, 1, 1}
	for _, c := range []struct {
		name                      string
		reported, actual, weights []int64
		key                       int64
		limit                     impl.Fraction
		examined                  int64
		isAdopted, ok             bool
	}{
		// With the key 0, the ballots are examined in the order 3, 2, 4, 0, 1.
		{"no ballot differs", []int64{1, 1, 1, 0, 0}, []int64{1, 1, 1, 0, 0}, ones, 0, half, 3, true, true},
		{"one ballot outside of the sample differs", []int64{1, 1, 1, 0, 0}, []int64{0, 1, 1, 0, 0}, ones, 0, half, 3, true, true},
		{"two ballots outside of the sample differ", []int64{1, 1, 1, 0, 0}, []int64{0, 0, 1, 0, 0}, ones, 0, half, 3, true, true},
		{"the second ballot of the sample differs", []int64{1, 1, 1, 0, 0}, []int64{1, 1, 0, 0, 0}, ones, 0, half, 5, false, true},
		{"the first ballot of the sample differs", []int64{1, 1, 1, 0, 0}, []int64{1, 1, 1, 1, 0}, ones, 0, half, 5, true, true},
		{"the last ballot of the sample differs", []int64{1, 1, 1, 0, 0}, []int64{1, 1, 1, 0, 1}, ones, 0, half, 5, true, true},
		{"the last ballot of the sample and one outside differ", []int64{1, 1, 1, 0, 0}, []int64{0, 0, 1, 0, 2}, ones, 0, half, 5, false, true},
		{"all differ", []int64{1, 1, 1, 0, 0}, []int64{0, 0, 0, 1, 1}, ones, 0, half, 5, false, true},
		{"all differ and the result is the same", []int64{1, 1, 1, 0, 0}, []int64{2, 2, 2, 1, 1}, ones, 0, half, 5, true, true},
		{"a ballot with the weight 0 differs", []int64{1, 1, 1, 0, 0}, []int64{1, 1, 1, 1, 0}, []int64{1, 1, 1, 0, 1}, 0, half, 5, true, true},
		{"the limit 0", []int64{1, 1, 1, 0, 0}, []int64{1, 0, 1, 0, 0}, ones, 0, none, 5, false, true},
		{"the limit 0 and no ballot differs", []int64{1, 1, 1, 0, 0}, []int64{1, 1, 1, 0, 0}, ones, 0, none, 5, true, true},
		{"the limit 1", []int64{1, 1, 1, 0, 0}, []int64{0, 0, 0, 0, 0}, ones, 0, frac(1, 1), 0, true, true},
		{"a limit beyond 1", []int64{1, 1, 1, 0, 0}, []int64{0, 0, 0, 0, 0}, ones, 0, frac(7, 2), 0, true, true},
		{"a negative limit", []int64{1, 1, 1, 0, 0}, []int64{1, 1, 1, 0, 0}, ones, 0, frac(-1, 2), 0, false, false},
		{"a motion that is not adopted", []int64{0, 0, 1, 0, 0}, []int64{0, 0, 1, 0, 0}, ones, 0, half, 2, false, true},
		{"a motion that is found to be adopted", []int64{0, 0, 1, 0, 0}, []int64{1, 1, 2, 0, 2}, ones, 0, half, 5, true, true},
		{"no margin", []int64{1, 0}, []int64{0, 1}, []int64{0, 0}, 0, half, 0, false, true},
		{"no margin and a limit of 0", []int64{1, 0}, []int64{0, 1}, []int64{0, 0}, 0, none, 0, false, true},
		{"no margin and a limit that no sample meets", []int64{1, 0}, []int64{0, 1}, []int64{0, 0}, 0, frac(-1, 2), 0, false, true},
		{"no ballots", nil, nil, nil, 0, half, 0, false, true},
		{"no ballots, in empty lists", []int64{}, []int64{}, []int64{}, 0, half, 0, false, true},
		{"no ballots and a negative limit", nil, nil, nil, 0, frac(-1, 2), 0, false, true},
		{"one ballot", []int64{1}, []int64{1}, []int64{1}, 0, half, 1, true, true},
		{"one ballot that differs", []int64{1}, []int64{0}, []int64{1}, 0, half, 1, false, true},
		{"a key that examines the second ballot", []int64{1, 0}, []int64{2, 0}, []int64{2, 1}, 1, half, 1, true, true},
		{"a key that examines the second ballot, which differs", []int64{1, 0}, []int64{1, 1}, []int64{2, 1}, 1, half, 2, true, true},
		{"the greatest key, which examines the first ballot", []int64{1, 0}, []int64{1, 1}, []int64{2, 1}, impl.MaxAuditKey, half, 1, true, true},
		{"the greatest key, which examines the first ballot, which differs", []int64{1, 0}, []int64{2, 0}, []int64{2, 1}, impl.MaxAuditKey, half, 2, false, true},
	} {
		examined, adopted, ok := impl.RunAudit(c.reported, c.actual, c.weights, c.key, c.limit)
		if examined != c.examined || adopted != c.isAdopted || ok != c.ok {
			t.Errorf("%s: RunAudit is %d, %v, %v, want %d, %v, %v", c.name, examined, adopted, ok, c.examined, c.isAdopted, c.ok)
		}
	}
}

func TestRunAuditRefuses(t *testing.T) {
	refused := func(what string, reported, actual, weights []int64, key int64, limit impl.Fraction) {
		t.Helper()
		examined, adopted, ok := impl.RunAudit(reported, actual, weights, key, limit)
		if examined != 0 || adopted || ok {
			t.Errorf("RunAudit with %s of %v, %v, %v: got %d, %v, %v", what, reported, actual, weights, examined, adopted, ok)
		}
	}
	for name, c := range votesRefused() {
		votes, weights := c[0], c[1]
		right := make([]int64, len(votes))
		for _, limit := range []impl.Fraction{frac(1, 2), frac(0, 1), frac(1, 1)} {
			refused(name, votes, votes, weights, 0, limit)
			refused(name+" as actual votes", right, votes, weights, 0, limit)
			refused(name+" as reported votes", votes, right, weights, 0, limit)
		}
	}
	// No sample is needed if the weights are 0, but the arguments must be as required all the same.
	for _, weights := range [][]int64{{1, 1}, {0, 0}} {
		for _, limit := range []impl.Fraction{frac(1, 2), frac(1, 1)} {
			votes := []int64{1, 0}
			refused("fewer actual votes", votes, votes[:1], weights, 0, limit)
			refused("more actual votes", votes, []int64{1, 0, 0}, weights, 0, limit)
			refused("more reported votes", []int64{1, 0, 0}, votes, weights, 0, limit)
			refused("no actual votes", votes, nil, weights, 0, limit)
			refused("no reported votes", nil, votes, weights, 0, limit)
			refused("no votes", nil, nil, weights, 0, limit)
			refused("more weights", votes, votes, append(weights[:2:2], 0), 0, limit)
			refused("fewer weights", votes, votes, weights[:1], 0, limit)
			for _, key := range []int64{-1, impl.MaxAuditKey + 1, math.MaxInt64, math.MinInt64} {
				refused("a key that is none", votes, votes, weights, key, limit)
			}
		}
		for _, limit := range notFractions() {
			refused("a limit that is no fraction", []int64{1, 0}, []int64{1, 0}, weights, 0, limit)
		}
	}
	for _, limit := range notFractions() {
		refused("a limit that is no fraction and no ballots", nil, nil, nil, 0, limit)
	}
	refused("no ballots and a key that is none", nil, nil, nil, -1, frac(1, 2))
}

// Of all samples of that size, those that contain no differing ballot are within the limit if the result is another one.
func TestRiskOfAuditsIsWithinTheLimit(t *testing.T) {
	random := rand.New(rand.NewSource(244))
	wrong := 0
	for wrong < 1500 {
		count := 1 + random.Intn(9)
		reported, weights := randomAudited(random, count)
		actual := slices.Clone(reported)
		for range 1 + random.Intn(count) {
			actual[random.Intn(count)] = randomVote(random)
		}
		if adoptedIn(reported, weights) == adoptedIn(actual, weights) {
			continue
		}
		wrong++
		limit, _ := impl.FractionOf(random.Int63n(21), 20)
		sample, _, ok := impl.RunAudit(reported, reported, weights, 0, limit)
		var differing []int64
		for i, vote := range reported {
			if actual[i] != vote {
				differing = append(differing, int64(i))
			}
		}
		all := combinations(int64(count), sample)
		missed := slices.DeleteFunc(slices.Clone(all), func(set []int64) bool { return bothIn(set, differing) > 0 })
		if !ok || big.NewRat(int64(len(missed)), int64(len(all))).Cmp(exact(limit)) > 0 {
			t.Errorf("RunAudit %v, %v, %v: %d of %d samples of %d miss the %d differing ballots", reported, weights, limit, len(missed), len(all), sample, len(differing))
		}
		checkAudit(t, reported, actual, weights, random.Int63n(impl.MaxAuditKey+1), limit)
	}
}
