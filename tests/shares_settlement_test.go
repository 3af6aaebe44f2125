package tests

import (
	"fmt"
	"math"
	"math/big"
	"slices"
	"testing"

	"loop.example/g01095/impl"
)

// The amounts are those that ballots make one by one, and no ballot is lost but in trapped members.
func TestSettledShares(t *testing.T) {
	for _, list := range sampleShares(45) {
		what := " of " + sharesText(list)
		all, lost := make([]*big.Rat, len(list)), rational(int64(len(list)))
		powers := make([]*big.Rat, len(list))
		for i := range list {
			all[i], powers[i] = new(big.Rat), new(big.Rat)
		}
		for from, row := range visits(list) {
			ends := make([]*big.Rat, len(list))
			for to, part := range row {
				ends[to] = new(big.Rat).Mul(part, partOf(list, to, to))
				all[to].Add(all[to], part)
				powers[to].Add(powers[to], ends[to])
				lost.Sub(lost, ends[to])
			}
			got, ok := impl.EndsOf(list, int64(from))
			expectFractions(t, fmt.Sprint("EndsOf", what, ", ", from), got, ok, ends)
		}
		got, ok := impl.ReceivedOf(list)
		expectFractions(t, "ReceivedOf"+what, got, ok, all)
		got, ok = impl.PowersOf(list)
		expectFractions(t, "PowersOf"+what, got, ok, powers)
		left, ok := impl.LostPart(list)
		expectFractions(t, "LostPart"+what, []impl.Fraction{left}, ok, []*big.Rat{lost})
		if isLost, trapped := lost.Sign() > 0, slices.Contains(trapped(list), true); isLost != trapped {
			t.Errorf("LostPart%s: got %v, but it is %v that members are trapped", what, left, trapped)
		}
	}
}

// What members receive solves the document's equations.
func TestReceivedSolvesTheEquations(t *testing.T) {
	for _, list := range sampleShares(46) {
		received, ok := impl.ReceivedOf(list)
		if !ok || len(received) != len(list) {
			t.Fatalf("ReceivedOf %q: got %v, %v", sharesText(list), received, ok)
		}
		for member, lost := range trapped(list) {
			want := new(big.Rat)
			for other := range list {
				if !lost && other != member {
					want.Add(want, new(big.Rat).Mul(partOf(list, other, member), exact(received[other])))
				}
			}
			if !lost {
				want.Add(want, rational(1))
			}
			if exact(received[member]).Cmp(want) != 0 {
				t.Errorf("ReceivedOf %q: %v, but member %d receives %v of these", sharesText(list), received, member, want)
			}
		}
	}
}

func TestIsSettled(t *testing.T) {
	for _, list := range sampleShares(47) {
		received, _ := impl.ReceivedOf(list)
		if !impl.IsSettled(list, received) {
			t.Errorf("IsSettled of %q is false for %v", sharesText(list), received)
		}
		wrong := [][]impl.Fraction{nil, received[1:], received[:len(received)-1], append(slices.Clone(received), frac(0, 1)), append(slices.Clone(received), frac(1, 1))}
		for i, f := range received {
			for _, other := range []impl.Fraction{frac(f.Num+f.Den, f.Den), frac(2*f.Num, 2*f.Den), frac(-f.Num, -f.Den), frac(f.Num, f.Den+1), {}} {
				changed := slices.Clone(received)
				changed[i] = other
				wrong = append(wrong, changed)
			}
		}
		for _, amounts := range wrong {
			if impl.IsSettled(list, amounts) {
				t.Errorf("IsSettled of %q is true for %v", sharesText(list), amounts)
			}
		}
	}
}

func TestSteps(t *testing.T) {
	for _, list := range sampleShares(48) {
		passed := make([]*big.Rat, len(list))
		for i := range list {
			passed[i] = new(big.Rat).Sub(rational(1), partOf(list, i, i))
		}
		want, lost := expected(list, passed), trapped(list)
		for member, row := range reaches(list) {
			fails := false
			for other, reached := range row {
				fails = fails || reached && lost[other]
			}
			what := fmt.Sprintf("StepsOf %q, %d", sharesText(list), member)
			got, ok := impl.StepsOf(list, int64(member))
			if fails {
				expect(t, what, got, ok, impl.Fraction{}, false)
			} else {
				expectFractions(t, what, []impl.Fraction{got}, ok, want[member:member+1])
			}
		}
	}
}

// follow adds to ended what of a part ends with each member if it is passed so many times at most.
func follow(list [][]impl.Share, member int, part *big.Rat, passes int64, ended []*big.Rat) {
	ended[member].Add(ended[member], new(big.Rat).Mul(part, partOf(list, member, member)))
	for _, s := range list[member] {
		if passes > 0 {
			follow(list, int(s.To), new(big.Rat).Mul(part, big.NewRat(s.Part, impl.WholeBallot)), passes-1, ended)
		}
	}
}

func TestAfterPasses(t *testing.T) {
	lists := sampleShares(49)
	for k, list := range lists {
		if k%7 != 0 && k < len(lists)-10 {
			continue
		}
		for passes := int64(0); passes <= impl.MaxPasses; passes++ {
			ended := make([]*big.Rat, len(list))
			for i := range list {
				ended[i] = new(big.Rat)
			}
			for i := range list {
				follow(list, i, rational(1), passes, ended)
			}
			got, ok := impl.AfterPasses(list, passes)
			expectFractions(t, fmt.Sprintf("AfterPasses of %q, %d", sharesText(list), passes), got, ok, ended)
		}
	}
	for _, passes := range []int64{-1, impl.MaxPasses + 1, math.MinInt64, math.MaxInt64, 1 << 32} {
		got, ok := impl.AfterPasses(shares("1:6;"), passes)
		expect(t, fmt.Sprint("AfterPasses with ", passes, " passes"), len(got), ok, 0, false)
	}
}

// No part that has ended comes back, and at most the powers end.
func TestAfterPassesGrows(t *testing.T) {
	for _, list := range sampleShares(50) {
		amounts := make([][]impl.Fraction, impl.MaxPasses+2)
		for passes := range int64(impl.MaxPasses + 1) {
			amounts[passes], _ = impl.AfterPasses(list, passes)
		}
		amounts[impl.MaxPasses+1], _ = impl.PowersOf(list)
		for k := range impl.MaxPasses + 1 {
			for i, before := range amounts[k] {
				if exact(before).Cmp(exact(amounts[k+1][i])) > 0 {
					t.Errorf("AfterPasses of %q: %v, then %v", sharesText(list), amounts[k], amounts[k+1])
				}
			}
		}
	}
}

// With one trusted member each, the shares settle as the voices do, by each rule.
func TestUnitSharesSettleAsVoices(t *testing.T) {
	lists := slices.Concat(smallVoices(1), smallVoices(2), smallVoices(3))
	for _, list := range settledLists(51) {
		single := slices.Clone(list)
		for i := range single {
			single[i].Trust = single[i].Trust[:min(1, len(single[i].Trust))]
		}
		lists = append(lists, single)
	}
	count := 0
	for _, list := range lists {
		units, ok := impl.UnitShares(list)
		if !ok || slices.ContainsFunc(list, func(v impl.Voice) bool { return !v.Speaks && len(v.Trust) != 1 }) {
			continue
		}
		count++
		what := fmt.Sprintf(" of %q", textOf(list))
		for _, rule := range rules() {
			weights, _ := impl.WeightsOf(list, rule)
			want := make([]*big.Rat, len(list))
			for i, weight := range weights {
				want[i] = rational(weight)
			}
			powers, ok := impl.PowersOf(units)
			expectFractions(t, "PowersOf"+what, powers, ok, want)
			settled, _ := impl.SettleVoices(list, rule)
			for member, end := range settled {
				for i := range want {
					want[i] = new(big.Rat)
				}
				if end >= 0 {
					want[end].SetInt64(1)
				}
				ends, ok := impl.EndsOf(units, int64(member))
				expectFractions(t, fmt.Sprint("EndsOf", what, ", ", member), ends, ok, want)
			}
		}
		members, _ := impl.LostMembers(list)
		trapped, ok := impl.TrappedMembers(units)
		expectList(t, "TrappedMembers"+what, trapped, ok, members, true)
		lost, ok := impl.LostPart(units)
		expect(t, "LostPart"+what, lost, ok, frac(int64(len(members)), 1), true)
	}
	if count < 100 {
		t.Errorf("only %d lists have one trusted member each", count)
	}
}

// fractionsText writes fractions with blanks between them.
func fractionsText(list []impl.Fraction) string {
	text := ""
	for i, f := range list {
		word, ok := impl.FractionText(f)
		if !ok {
			word = fmt.Sprint(f)
		}
		if i > 0 {
			text += " "
		}
		text += word
	}
	return text
}

func TestSharesCases(t *testing.T) {
	for _, c := range []struct {
		name, text             string
		received, powers, lost string
		ends, steps            string // of the ballot of member 0; steps are empty if StepsOf fails
		after                  string // as many passes as can be
	}{
		{"one member", "", "1", "1", "0", "1", "0", "1"},
		{"the document's first example", "1:12;0:6,2:6;", "3 4 3", "0 0 3", "0", "0 0 1", "4", "0 0 5/2"},
		{"the document's second example", "1:12;0:12;", "0 0 1", "0 0 1", "2", "0 0 0", "", "0 0 1"},
		{"a part", "1:6;", "1 3/2", "1/2 3/2", "0", "1/2 1/2", "1/2", "1/2 3/2"},
		{"all", "1:12;", "1 2", "0 2", "0", "0 1", "1", "0 2"},
		{"a circle", "1:6;0:6", "2 2", "1 1", "0", "2/3 1/3", "1", "31/32 31/32"},
		{"nothing kept in a circle but by one", "1:12;0:11", "23 24", "0 2", "0", "0 1", "23", "0 673/1728"},
		{"two circles through one member", "1:4,2:4;0:12;0:12", "9 4 4", "3 0 0", "0", "1 0 0", "4", "49/27 0 0"},
		{"circles that share a step", "1:12;0:4,2:4;0:12", "8 9 4", "0 3 0", "0", "0 1 0", "6", "0 43/27 0"},
		{"passing a part to trapped members", "1:6,3:3;2:12;1:12;", "1 0 0 5/4", "1/4 0 0 5/4", "5/2", "1/4 0 0 1/4", "", "1/4 0 0 5/4"},
		{"passing a part to a trapped member and back", "1:6,2:6;0:12;3:12;2:12", "0 0 0 0", "0 0 0 0", "4", "0 0 0 0", "", "0 0 0 0"},
		{"a chain", "1:12;2:12;3:12;4:12;5:12;", "1 2 3 4 5 6", "0 0 0 0 0 6", "0", "0 0 0 0 0 1", "5", "0 0 0 0 0 5"},
		{"two who keep all", ";;0:5,1:7", "17/12 19/12 1", "17/12 19/12 0", "0", "1 0 0", "0", "17/12 19/12 0"},
	} {
		list := shares(c.text)
		check := func(what string, got []impl.Fraction, ok bool, want string) {
			t.Helper()
			expect(t, c.name+": "+what, fractionsText(got), ok, want, true)
		}
		got, ok := impl.ReceivedOf(list)
		check("ReceivedOf", got, ok, c.received)
		got, ok = impl.PowersOf(list)
		check("PowersOf", got, ok, c.powers)
		lost, ok := impl.LostPart(list)
		check("LostPart", []impl.Fraction{lost}, ok, c.lost)
		got, ok = impl.EndsOf(list, 0)
		check("EndsOf", got, ok, c.ends)
		got, ok = impl.AfterPasses(list, impl.MaxPasses)
		check("AfterPasses", got, ok, c.after)
		if steps, ok := impl.StepsOf(list, 0); c.steps == "" {
			expect(t, c.name+": StepsOf", steps, ok, impl.Fraction{}, false)
		} else {
			check("StepsOf", []impl.Fraction{steps}, ok, c.steps)
		}
	}
}
