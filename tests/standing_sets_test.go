package tests

import (
	"fmt"
	"math"
	"slices"
	"testing"

	"loop.example/g01095/impl"
)

func TestStandingSets(t *testing.T) {
	for _, f := range append(sampleFrames(154, 1000), fullFrame(), frame("10"), frame(chain)) {
		all := allSetsIn(f)
		what := fmt.Sprintf(" of %q", frameText(f))
		complete, ok := impl.CompleteSets(f)
		expectLists(t, "CompleteSets"+what, complete, ok, all.complete, true)
		preferred, ok := impl.PreferredSets(f)
		expectLists(t, "PreferredSets"+what, preferred, ok, all.preferred, true)
		stable, ok := impl.StableSets(f)
		expectLists(t, "StableSets"+what, stable, ok, all.stable, true)
		grounded, ok := impl.GroundedSet(f)
		expectList(t, "GroundedSet"+what, grounded, ok, all.grounded(), true)
		ideal, ok := impl.IdealSet(f)
		expectList(t, "IdealSet"+what, ideal, ok, all.ideal(), true)
		for a := int64(-1); a <= f.Count; a++ {
			isArgument := a >= 0 && a < f.Count
			want := int64(0)
			if isArgument {
				want = all.standing(a)
			}
			standing, ok := impl.StandingOf(f, a)
			expect(t, fmt.Sprintf("StandingOf%s, %d", what, a), standing, ok, want, isArgument)
			defence, found := all.defence(a)
			list, ok := impl.DefenceOf(f, a)
			expectList(t, fmt.Sprintf("DefenceOf%s, %d", what, a), list, ok, defence, found)
		}
	}
}

// All frames with four arguments are too many for each of them to be tried.
func TestStandingSetsOfFourArguments(t *testing.T) {
	for i, f := range smallFrames(4) {
		if i%37 > 0 {
			continue
		}
		all := allSetsIn(f)
		what := fmt.Sprintf(" of %q", frameText(f))
		preferred, ok := impl.PreferredSets(f)
		expectLists(t, "PreferredSets"+what, preferred, ok, all.preferred, true)
		ideal, ok := impl.IdealSet(f)
		expectList(t, "IdealSet"+what, ideal, ok, all.ideal(), true)
		rounds, ok := impl.RoundsOf(f)
		expectList(t, "RoundsOf"+what, rounds, ok, roundsIn(f), true)
	}
}

// Preferred sets are the greatest admissible ones: each admissible set is a part of one of them, and none of them is a part of
// another set that is admissible.
func TestPreferredSetsAreTheGreatestAdmissibleOnes(t *testing.T) {
	for i, f := range sampleFrames(155, 300) {
		preferred, ok := impl.PreferredSets(f)
		if i%4 > 0 && f.Count == 3 {
			continue
		}
		if !ok || len(preferred) == 0 {
			t.Errorf("PreferredSets of %q: got %v, %v", frameText(f), preferred, ok)
		}
		for _, set := range allSets(f.Count) {
			isPartOfOne := slices.ContainsFunc(preferred, func(other []int64) bool { return isPart(set, other) })
			isOne := slices.ContainsFunc(preferred, func(other []int64) bool { return slices.Equal(set, other) })
			if isAdmissible := impl.IsAdmissible(f, set); isAdmissible && !isPartOfOne || !isAdmissible && isOne {
				t.Errorf("PreferredSets of %q: got %v, and of %v IsAdmissible is %v", frameText(f), preferred, set, isAdmissible)
			}
		}
		for _, a := range preferred {
			for _, b := range preferred {
				if isPart(a, b) && !slices.Equal(a, b) {
					t.Errorf("PreferredSets of %q: %v is a part of %v", frameText(f), a, b)
				}
			}
		}
	}
}

// The sets that the document relates to one another are so related.
func TestStandingSetsAreRelated(t *testing.T) {
	for _, f := range sampleFrames(156, 1000) {
		what := fmt.Sprintf(" of %q", frameText(f))
		complete, _ := impl.CompleteSets(f)
		preferred, _ := impl.PreferredSets(f)
		stable, _ := impl.StableSets(f)
		grounded, _ := impl.GroundedSet(f)
		ideal, _ := impl.IdealSet(f)
		isComplete := func(set []int64) bool {
			return slices.ContainsFunc(complete, func(other []int64) bool { return slices.Equal(set, other) })
		}
		for _, set := range slices.Concat(preferred, stable, [][]int64{grounded, ideal}) {
			if !isComplete(set) {
				t.Errorf("%v is no complete set%s", set, what)
			}
		}
		for _, set := range complete {
			if !isPart(grounded, set) {
				t.Errorf("the grounded set %v is no part of the complete set %v%s", grounded, set, what)
			}
		}
		for _, set := range preferred {
			if !isPart(ideal, set) {
				t.Errorf("the ideal set %v is no part of the preferred set %v%s", ideal, set, what)
			}
		}
		if !isPart(grounded, ideal) {
			t.Errorf("the grounded set %v is no part of the ideal set %v%s", grounded, ideal, what)
		}
	}
}

func TestRounds(t *testing.T) {
	longest := int64(0)
	for _, f := range append(sampleFrames(157, 3000), fullFrame(), frame("10"), frame(chain)) {
		want := roundsIn(f)
		rounds, ok := impl.RoundsOf(f)
		expectList(t, fmt.Sprintf("RoundsOf %q", frameText(f)), rounds, ok, want, true)
		grounded, ok := impl.GroundedSet(f)
		expectList(t, fmt.Sprintf("GroundedSet of %q", frameText(f)), grounded, ok, acceptedIn(want), true)
		longest = max(longest, slices.Max(append(want, 0)))
	}
	if longest < impl.MaxArguments/2 {
		t.Errorf("the longest frame has only %d rounds", longest)
	}
}

func TestRoundCases(t *testing.T) {
	for _, c := range []struct{ name, text, want string }{
		{"no arguments", "0", "[]"},
		{"one argument", "1", "[1]"},
		{"an argument that attacks itself", "1 0>0", "[0]"},
		{"10 arguments without attacks", "10", "[1 1 1 1 1 1 1 1 1 1]"},
		{"10 arguments that all attack one another", frameText(fullFrame()), "[0 0 0 0 0 0 0 0 0 0]"},
		{"the document's first example, in which nothing is accepted in round 1", "4 0>1 1>0 1>2 2>3", "[0 0 0 0]"},
		{"the document's second example", "3 0>1 1>2", "[1 -1 2]"},
		{"the longest chain", chain, "[1 -1 2 -2 3 -3 4 -4 5 -5]"},
		{"a chain in the other direction", "5 1>0 2>1 3>2 4>3", "[3 -2 2 -1 1]"},
		{"the first round rejects all others", "4 0>1 0>2 0>3 1>2 2>3 3>1", "[1 -1 -1 -1]"},
		{"an argument is accepted only when its last attacker is rejected", "6 0>1 1>2 1>5 2>3 3>5 4>1", "[1 -1 2 -2 1 3]"},
		{"an argument is rejected as soon as its first attacker is accepted", "4 0>1 0>3 1>2 2>3", "[1 -1 2 -1]"},
		{"an argument is rejected although another attacker is not decided", "4 0>3 1>2 1>3 2>1", "[1 0 0 -1]"},
		{"an argument that attacks itself is rejected", "2 0>1 1>1", "[1 -1]"},
		{"an argument that attacks itself is rejected later, and defends another one by this", "5 0>1 1>2 2>3 3>3 3>4", "[1 -1 2 -2 3]"},
		{"an argument that attacks itself, and one that it and an accepted one attack", "3 0>0 0>1 2>1", "[0 -1 1]"},
		{"an argument that attacks itself, and one behind it", "2 0>0 0>1", "[0 0]"},
		{"an odd circle", "3 0>1 1>2 2>0", "[0 0 0]"},
		{"an odd circle with a way out of it", "5 0>1 1>2 2>0 2>3 3>4", "[0 0 0 0 0]"},
		{"an odd circle with a way into it", "4 0>1 1>2 2>0 3>0", "[-1 2 -2 1]"},
		{"an odd circle with a way into it and a way out of it", "5 0>1 1>2 2>0 2>4 3>0", "[-1 2 -2 1 3]"},
		{"an even circle", "4 0>1 1>2 2>3 3>0", "[0 0 0 0]"},
		{"an even circle with a way out of it", "5 0>1 1>2 2>3 3>0 3>4", "[0 0 0 0 0]"},
		{"an even circle with a way into it", "5 0>1 1>2 2>3 3>0 4>0", "[-1 2 -2 3 1]"},
		{"an even circle with a way into it by an argument that is rejected", "6 0>1 1>2 2>3 3>0 4>0 5>4", "[0 0 0 0 -1 1]"},
		{"some arguments are decided and others never", "6 0>1 1>4 2>3 3>2 3>5 4>5", "[1 -1 0 0 2 -2]"},
		{"two arguments attack each other and a third one attacks one of them", "3 0>1 1>0 2>1", "[2 -1 1]"},
	} {
		rounds, ok := impl.RoundsOf(frame(c.text))
		expect(t, c.name, fmt.Sprint(rounds), ok, c.want, true)
	}
}

func TestStandingSetCases(t *testing.T) {
	for _, c := range []struct {
		name, text                                             string
		complete, preferred, stable, grounded, ideal, standing string
	}{
		{"no arguments", "0", "[[]]", "[[]]", "[[]]", "[]", "[]", "[]"},
		{"one argument", "1", "[[0]]", "[[0]]", "[[0]]", "[0]", "[0]", "[3]"},
		{"one argument that attacks itself", "1 0>0", "[[]]", "[[]]", "[]", "[]", "[]", "[0]"},
		{"10 arguments without attacks", "10", "[[0 1 2 3 4 5 6 7 8 9]]", "[[0 1 2 3 4 5 6 7 8 9]]", "[[0 1 2 3 4 5 6 7 8 9]]", "[0 1 2 3 4 5 6 7 8 9]", "[0 1 2 3 4 5 6 7 8 9]", "[3 3 3 3 3 3 3 3 3 3]"},
		{"10 arguments that all attack one another", frameText(fullFrame()), "[[]]", "[[]]", "[]", "[]", "[]", "[0 0 0 0 0 0 0 0 0 0]"},
		{"the document's first example", "4 0>1 1>0 1>2 2>3", "[[] [0 2] [1 3]]", "[[0 2] [1 3]]", "[[0 2] [1 3]]", "[]", "[]", "[1 1 1 1]"},
		{"the document's second example", "3 0>1 1>2", "[[0 2]]", "[[0 2]]", "[[0 2]]", "[0 2]", "[0 2]", "[3 0 3]"},
		{"the longest chain", chain, "[[0 2 4 6 8]]", "[[0 2 4 6 8]]", "[[0 2 4 6 8]]", "[0 2 4 6 8]", "[0 2 4 6 8]", "[3 0 3 0 3 0 3 0 3 0]"},
		{"two arguments that attack each other", "2 0>1 1>0", "[[] [0] [1]]", "[[0] [1]]", "[[0] [1]]", "[]", "[]", "[1 1]"},
		{"two of them, with one that neither attacks", "3 0>1 1>0", "[[0 2] [1 2] [2]]", "[[0 2] [1 2]]", "[[0 2] [1 2]]", "[2]", "[2]", "[1 1 3]"},
		{"an argument behind one that attacks itself", "2 0>0 0>1", "[[]]", "[[]]", "[]", "[]", "[]", "[0 0]"},
		{"an argument that attacks itself is attacked by an accepted one", "2 0>1 1>1", "[[0]]", "[[0]]", "[[0]]", "[0]", "[0]", "[3 0]"},
		{"an argument that attacks itself, and one that it has no attacks with", "2 1>1", "[[0]]", "[[0]]", "[]", "[0]", "[0]", "[3 0]"},
		{"two arguments that attack each other, one of which attacks itself", "2 0>0 0>1 1>0", "[[] [1]]", "[[1]]", "[[1]]", "[]", "[1]", "[0 2]"},
		{"two arguments that attack each other, both of which attack themselves", "2 0>0 0>1 1>0 1>1", "[[]]", "[[]]", "[]", "[]", "[]", "[0 0]"},
		{"an odd circle", "3 0>1 1>2 2>0", "[[]]", "[[]]", "[]", "[]", "[]", "[0 0 0]"},
		{"an odd circle with a way out of it", "4 0>1 1>2 2>0 2>3", "[[]]", "[[]]", "[]", "[]", "[]", "[0 0 0 0]"},
		{"an odd circle with a way into it", "4 0>1 1>2 2>0 3>0", "[[1 3]]", "[[1 3]]", "[[1 3]]", "[1 3]", "[1 3]", "[0 3 0 3]"},
		{"an odd circle with a way into it by one that attacks itself", "4 0>1 1>2 2>0 3>0 3>3", "[[]]", "[[]]", "[]", "[]", "[]", "[0 0 0 0]"},
		{"an even circle", "4 0>1 1>2 2>3 3>0", "[[] [0 2] [1 3]]", "[[0 2] [1 3]]", "[[0 2] [1 3]]", "[]", "[]", "[1 1 1 1]"},
		{"an even circle with a way out of it", "5 0>1 1>2 2>3 3>0 3>4", "[[] [0 2 4] [1 3]]", "[[0 2 4] [1 3]]", "[[0 2 4] [1 3]]", "[]", "[]", "[1 1 1 1 1]"},
		{"an even circle with a way into it", "5 0>1 1>2 2>3 3>0 4>0", "[[1 3 4]]", "[[1 3 4]]", "[[1 3 4]]", "[1 3 4]", "[1 3 4]", "[0 3 0 3 3]"},
		{"an even circle with a way into an odd one: only one of the preferred sets is stable", "5 0>1 1>0 1>2 2>3 3>4 4>2", "[[] [0] [1 3]]", "[[0] [1 3]]", "[[1 3]]", "[]", "[]", "[1 1 0 1 0]"},
		{"an odd circle with a way into an even one", "5 0>1 1>2 2>0 2>3 3>4 4>3", "[[] [4]]", "[[4]]", "[]", "[]", "[4]", "[0 0 0 0 2]"},
		{"an argument that all preferred sets have and the ideal set does not", "4 0>1 0>2 1>0 1>2 2>3", "[[] [0 3] [1 3]]", "[[0 3] [1 3]]", "[[0 3] [1 3]]", "[]", "[]", "[1 1 0 2]"},
		{"an ideal set that is not empty, none of the preferred sets, and not the grounded set", "4 0>0 0>1 1>0 2>3 3>2", "[[] [1] [1 2] [1 3] [2] [3]]", "[[1 2] [1 3]]", "[[1 2] [1 3]]", "[]", "[1]", "[0 2 1 1]"},
		{"all four standings", "7 0>1 1>0 2>2 2>3 3>2 4>5", "[[0 3 4 6] [0 4 6] [1 3 4 6] [1 4 6] [3 4 6] [4 6]]", "[[0 3 4 6] [1 3 4 6]]", "[[0 3 4 6] [1 3 4 6]]", "[4 6]", "[3 4 6]", "[1 1 0 2 3 0 3]"},
		{"the only preferred set is not stable because of an argument that attacks itself", "4 0>1 1>0 1>2 2>2 3>0 3>3", "[[] [1]]", "[[1]]", "[]", "[]", "[1]", "[0 2 0 0]"},
	} {
		f := frame(c.text)
		complete, a := impl.CompleteSets(f)
		preferred, b := impl.PreferredSets(f)
		stable, d := impl.StableSets(f)
		grounded, e := impl.GroundedSet(f)
		ideal, g := impl.IdealSet(f)
		standings := []int64{}
		for x := range f.Count {
			standing, _ := impl.StandingOf(f, x)
			standings = append(standings, standing)
		}
		expect(t, c.name+": CompleteSets", fmt.Sprint(complete), a, c.complete, true)
		expect(t, c.name+": PreferredSets", fmt.Sprint(preferred), b, c.preferred, true)
		expect(t, c.name+": StableSets", fmt.Sprint(stable), d, c.stable, true)
		expect(t, c.name+": GroundedSet", fmt.Sprint(grounded), e, c.grounded, true)
		expect(t, c.name+": IdealSet", fmt.Sprint(ideal), g, c.ideal, true)
		expect(t, c.name+": StandingOf", fmt.Sprint(standings), true, c.standing, true)
	}
}

func TestStandingsAreDifferent(t *testing.T) {
	if list := []int64{impl.StandNone, impl.StandSome, impl.StandAll, impl.StandSure}; !slices.Equal(list, []int64{0, 1, 2, 3}) {
		t.Errorf("the standings are %v", list)
	}
}

func TestNumbersThatAreNoArguments(t *testing.T) {
	for _, text := range []string{"0", "1", "1 0>0", "2 0>1", "10", chain} {
		f := frame(text)
		for _, a := range []int64{f.Count, f.Count + 1, -1, 10, 11, 15, 16, 17, 63, 64, 65, 1 << 16, 1 << 32, 1<<32 + 1, math.MaxInt64, math.MinInt64} {
			if a >= 0 && a < f.Count {
				continue
			}
			what := fmt.Sprintf(" of %q, %d", text, a)
			list, ok := impl.AttackersOf(f, a)
			expectList(t, "AttackersOf"+what, list, ok, nil, false)
			list, ok = impl.DefenceOf(f, a)
			expectList(t, "DefenceOf"+what, list, ok, nil, false)
			standing, ok := impl.StandingOf(f, a)
			expect(t, "StandingOf"+what, standing, ok, 0, false)
			s, ok := impl.StrategyFor(f, a)
			expectStrategy(t, "StrategyFor"+what, s, ok, impl.Strategy{}, false)
		}
	}
}

func TestDefenceCases(t *testing.T) {
	for _, c := range []struct {
		name, text string
		a          int64
		want       string
		ok         bool
	}{
		{"an argument with no attacker", "2 0>1", 0, "[0]", true},
		{"an argument that no set defends", "2 0>1", 1, "[]", false},
		{"an argument that attacks itself", "1 0>0", 0, "[]", false},
		{"an argument that attacks itself and is defended", "2 0>0 1>0", 0, "[]", false},
		{"an argument of an odd circle", "3 0>1 1>2 2>0", 1, "[]", false},
		{"an argument of an even circle", "4 0>1 1>2 2>3 3>0", 3, "[1 3]", true},
		{"an argument that defends itself", "2 0>1 1>0", 1, "[1]", true},
		{"the document's first example", "4 0>1 1>0 1>2 2>3", 3, "[1 3]", true},
		{"several least defences, the first one of which counts", "5 1>0 2>1 3>1 4>1", 0, "[0 2]", true},
		{"several least defences, and the argument is not the first one", "5 0>3 1>3 2>3 3>4", 4, "[0 4]", true},
		{"several least defences, and the argument stands between", "4 0>1 1>2 3>1", 2, "[0 2]", true},
		{"a lesser list has more arguments", "6 0>1 1>2 3>0 4>1 5>3", 2, "[2 4]", true},
		{"a lesser list is not admissible", "5 0>1 1>2 3>0 4>1", 2, "[2 4]", true},
		{"a defence must be defended, too", "10 1>0 2>1 3>2 4>3 5>4 6>5 7>6 8>7", 0, "[0 2 4 6 8]", true},
		{"all arguments of one kind are needed", "10 1>0 2>0 3>0 4>0 5>1 6>2 7>3 8>4", 0, "[0 5 6 7 8]", true},
		{"one defender against two attackers is better than two", "6 1>0 2>0 3>1 4>2 5>1 5>2", 0, "[0 5]", true},
		{"the only defender attacks the argument", "3 1>0 2>0 2>1", 0, "[]", false},
		{"the last argument", "10 0>9", 9, "[]", false},
	} {
		got, ok := impl.DefenceOf(frame(c.text), c.a)
		expect(t, c.name, fmt.Sprint(got), ok, c.want, c.ok)
	}
}

func TestReductOf(t *testing.T) {
	for i, f := range sampleFrames(158, 200) {
		if i%4 > 0 && f.Count == 3 {
			continue
		}
		for _, set := range allSets(f.Count) {
			what := fmt.Sprintf("ReductOf %q, %v", frameText(f), set)
			want := impl.Frame{}
			var names []int64
			for a := range f.Count {
				if !slices.Contains(set, a) && bothIn(attackersIn(f, a), set) == 0 {
					names = append(names, a)
				}
			}
			want.Count = int64(len(names))
			for i, a := range names {
				for j, b := range names {
					if attacksIn(f, a, b) {
						want.Attacks = append(want.Attacks, []int64{int64(i), int64(j)})
					}
				}
			}
			got, list, ok := impl.ReductOf(f, set)
			expectFrame(t, what, got, ok, want, true)
			expectList(t, "names of "+what, list, ok, names, true)
			if !impl.ValidFrame(got) {
				t.Errorf("%s: %v is not valid", what, got)
			}
		}
	}
}

func TestReductCases(t *testing.T) {
	for _, c := range []struct {
		name, text string
		set        []int64
		reduct     string
		names      string
	}{
		{"the empty set of no arguments", "0", nil, "0", "[]"},
		{"the empty set", "3 0>1 1>1 2>0", nil, "3 0>1 1>1 2>0", "[0 1 2]"},
		{"the empty set of a full frame", frameText(fullFrame()), []int64{}, frameText(fullFrame()), "[0 1 2 3 4 5 6 7 8 9]"},
		{"the set of all arguments leaves nothing", "3 0>1 1>1 2>0", []int64{0, 1, 2}, "0", "[]"},
		{"a set that attacks all others leaves nothing", "4 0>1 0>2 0>3", []int64{0}, "0", "[]"},
		{"a stable set leaves nothing", "4 0>1 1>2 2>3 3>0", []int64{1, 3}, "0", "[]"},
		{"a set that is not conflict-free", "4 0>1 1>2 2>3", []int64{0, 1}, "1", "[3]"},
		{"an argument that attacks itself leaves", "3 0>0 0>2 1>1 1>2", []int64{0}, "1 0>0", "[1]"},
		{"an argument that attacks itself stays", "3 0>0 1>2", []int64{1}, "1 0>0", "[0]"},
		{"attackers of the set stay", "3 1>0 2>0 2>1", []int64{0}, "2 1>0", "[1 2]"},
		{"the first argument leaves", "3 1>2 2>1", []int64{0}, "2 0>1 1>0", "[1 2]"},
		{"an argument in the middle leaves", "4 0>2 2>3 3>0", []int64{1}, "3 0>1 1>2 2>0", "[0 2 3]"},
		{"the last argument leaves", "3 0>1 1>0", []int64{2}, "2 0>1 1>0", "[0 1]"},
		{"the document's first example", "4 0>1 1>0 1>2 2>3", []int64{0}, "2 0>1", "[2 3]"},
		{"two arguments of the longest chain", chain, []int64{0, 4}, "6 0>1 2>3 3>4 4>5", "[2 3 6 7 8 9]"},
	} {
		got, names, ok := impl.ReductOf(frame(c.text), c.set)
		expect(t, c.name, frameText(got), ok, c.reduct, true)
		expect(t, c.name+": the old numbers", fmt.Sprint(names), ok, c.names, true)
	}
}
