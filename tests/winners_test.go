package tests

import (
	"fmt"
	"math"
	"slices"
	"testing"

	"loop.example/g01095/impl"
)

func TestDominatingSets(t *testing.T) {
	sizes := map[string]int{}
	for _, p := range sampleProfiles(100, 4000) {
		what := " of " + profileText(p)
		sets := dominatingIn(countsIn(p))
		if len(sets) > 1 && len(sets[0]) == len(sets[1]) {
			t.Errorf("there are several dominating sets%s with the fewest options", what)
		}
		got, ok := impl.LeastDominating(p)
		expectList(t, "LeastDominating"+what, got, ok, sets[0], true)
		option, ok := impl.DefeatsAll(p)
		wantOption, wantOK := int64(0), len(sets[0]) == 1
		if wantOK {
			wantOption = sets[0][0]
		}
		expect(t, "DefeatsAll"+what, option, ok, wantOption, wantOK)
		switch len(sets[0]) {
		case 1:
			sizes["one"]++
		case len(p.Rankings[0]):
			sizes["all"]++
		default:
			sizes["some"]++
		}
	}
	if min(sizes["one"], sizes["some"], sizes["all"]) < 300 {
		t.Errorf("the numbers of least dominating sets of one, some and all options are %v", sizes)
	}
}

// No ranking puts an option before one that is in a dominating set without it.
func TestRankingsBeginWithDominatingSets(t *testing.T) {
	several := 0
	for _, p := range sampleProfiles(101, 4000) {
		what := profileText(p)
		sets := dominatingIn(countsIn(p))
		if len(sets) > 2 {
			several++
		}
		ranked, _ := impl.RankedOrder(p)
		kemeny, _, _ := impl.KemenyRanking(p)
		for _, set := range sets {
			for name, ranking := range map[string][]int64{"RankedOrder": ranked, "KemenyRanking": kemeny} {
				if first := slices.Sorted(slices.Values(ranking[:len(set)])); !slices.Equal(first, set) {
					t.Errorf("%s of %q: %v, but %v is a dominating set", name, what, ranking, set)
				}
			}
		}
		winners, _ := impl.SchulzeWinners(p)
		if bothIn(winners, sets[0]) < int64(len(winners)) {
			t.Errorf("SchulzeWinners of %q: %v, but %v is a dominating set", what, winners, sets[0])
		}
	}
	if several < 500 {
		t.Errorf("only %d profiles have several dominating sets besides all options", several)
	}
}

func TestStrongestPaths(t *testing.T) {
	lists := allOrders()
	var equal, asLong, none, winnersTogether int
	for _, p := range sampleProfiles(102, 4000) {
		what := " of " + profileText(p)
		counts := countsIn(p)
		count := int64(len(counts))
		paths := strongestIn(counts, lists[count])
		strengths := make([][]int64, count)
		for i := range count {
			strengths[i] = make([]int64, count)
			for j := range count {
				best := append(paths[[2]int64{i, j}], nil)
				strengths[i][j] = strengthIn(counts, best[0])
				got, ok := impl.StrongestPath(p, i, j)
				expectList(t, fmt.Sprint("StrongestPath", what, i, j), got, ok, best[0], best[0] != nil)
				switch {
				case len(best) == 1 && i != j:
					none++
				case len(best) > 2 && len(best[0]) == len(best[1]):
					asLong++
				case len(best) > 2:
					equal++
				}
			}
		}
		got, ok := impl.PathStrengths(p)
		expectLists(t, "PathStrengths"+what, got, ok, strengths, true)
		var winners []int64
		for i := range count {
			if !slices.ContainsFunc(others(int(count), int(i)), func(j int64) bool { return strengths[i][j] < strengths[j][i] }) {
				winners = append(winners, i)
			}
		}
		list, ok := impl.SchulzeWinners(p)
		expectList(t, "SchulzeWinners"+what, list, ok, winners, true)
		if len(winners) > 1 {
			winnersTogether++
		}
	}
	if min(equal, asLong, none, winnersTogether) < 500 {
		t.Errorf("of the pairs, only %d have paths of equal strength, %d of equal length, too, and %d no path; %d profiles have several winners", equal, asLong, none, winnersTogether)
	}
}

func TestWinnerCases(t *testing.T) {
	for _, c := range []struct {
		name, text              string
		set, winners, strengths string
	}{
		{"the document's example", "4*abc 3*bca 2*cab", "[0 1 2]", "[0]", "[[0 6 6] [5 0 7] [5 5 0]]"},
		{"one option", "1*a", "[0]", "[0]", "[[0]]"},
		{"one option with the weight 0", "0*a", "[0]", "[0]", "[[0]]"},
		{"one ranking", "3*cab", "[2]", "[2]", "[[0 3 0] [0 0 0] [3 3 0]]"},
		{"one ranking with the weight 0", "0*cab", "[0 1 2]", "[0 1 2]", "[[0 0 0] [0 0 0] [0 0 0]]"},
		{"weights that are all 0", "0*ba 0*ba", "[0 1]", "[0 1]", "[[0 0] [0 0]]"},
		{"a weight of 0 does not count", "0*ab 1*ba", "[1]", "[1]", "[[0 0] [1 0]]"},
		{"the last option defeats all", "1*abc 2*cba", "[2]", "[2]", "[[0 0 0] [2 0 0] [2 2 0]]"},
		{"a defeat by 1", "499*ab 500*ba", "[1]", "[1]", "[[0 0] [500 0]]"},
		{"no option defeats another", "1*abc 1*cba", "[0 1 2]", "[0 1 2]", "[[0 0 0] [0 0 0] [0 0 0]]"},
		{"two options tie before the others", "1*abcd 1*badc", "[0 1]", "[0 1]", "[[0 0 2 2] [0 0 2 2] [0 0 0 0] [0 0 0 0]]"},
		{"two options tie before the first one", "1*bca 1*cba", "[1 2]", "[1 2]", "[[0 0 0] [2 0 0] [2 0 0]]"},
		{"an option ties with two that defeat one another", "1*abc 1*bca", "[0 1 2]", "[0 1]", "[[0 0 0] [0 0 2] [0 0 0]]"},
		{"a circle of equal strengths", "1*abc 1*bca 1*cab", "[0 1 2]", "[0 1 2]", "[[0 2 2] [2 0 2] [2 2 0]]"},
		{"a circle before another option", "4*bcda 3*cdba 2*dbca", "[1 2 3]", "[1]", "[[0 0 0 0] [9 0 6 6] [9 5 0 7] [9 5 5 0]]"},
		{"a circle behind another option", "4*dabc 3*dbca 2*dcab", "[3]", "[3]", "[[0 6 6 0] [5 0 7 0] [5 5 0 0] [9 9 9 0]]"},
		{"a circle of four", "1*abcd 1*bcda 1*cdab 1*dabc", "[0 1 2 3]", "[0 1 2 3]", "[[0 3 3 3] [3 0 3 3] [3 3 0 3] [3 3 3 0]]"},
	} {
		p := profile(c.text)
		set, ok := impl.LeastDominating(p)
		expect(t, c.name+": LeastDominating", fmt.Sprint(set), ok, c.set, true)
		first := int64(0)
		if len(set) == 1 {
			first = set[0]
		}
		option, ok := impl.DefeatsAll(p)
		expect(t, c.name+": DefeatsAll", option, ok, first, len(set) == 1)
		winners, ok := impl.SchulzeWinners(p)
		expect(t, c.name+": SchulzeWinners", fmt.Sprint(winners), ok, c.winners, true)
		strengths, ok := impl.PathStrengths(p)
		expect(t, c.name+": PathStrengths", fmt.Sprint(strengths), ok, c.strengths, true)
	}
}

func TestStrongestPathCases(t *testing.T) {
	const example, four = "4*abc 3*bca 2*cab", "1*abcd 1*bcda 1*cdab 1*dabc"
	for _, c := range []struct {
		name, text string
		from, to   int64
		path       string
	}{
		{"the document's example", example, 0, 2, "abc"},
		{"a path of two options", example, 0, 1, "ab"},
		{"the way back", example, 1, 0, "bca"},
		{"a circle of four", four, 1, 0, "bcda"},
		{"from the last option to the first one", four, 3, 0, "da"},
		{"the longest path", "1*abcdef 1*bcdefa 1*cdefab 1*defabc 1*efabcd 1*fabcde", 2, 1, "cdefab"},
		{"the fewest options of paths of equal strength", "3*abc", 0, 2, "ac"},
		{"the first one of paths of equal strength and length", "1*bcda 2*acbd 2*dacb", 0, 3, "abd"},
		{"the fewest options before the first ones", "2*abcd 2*cdab 1*dabc", 0, 3, "acd"},
		{"a stronger path before one with fewer options", "4*abc 3*bca 2*cab", 2, 1, "cab"},
		{"one ranking", "1*ba", 1, 0, "ba"},
		{"no path", "1*ba", 0, 1, ""},
		{"no path because of the weight 0", "0*ab", 0, 1, ""},
		{"no path between options that tie", "1*ab 1*ba", 0, 1, ""},
		{"no path between options that tie and defeat another one", "1*abc 1*bac", 0, 1, ""},
		{"both are equal", example, 0, 0, ""},
		{"both are equal and in a circle", example, 2, 2, ""},
		{"the only option", "1*a", 0, 0, ""},
		{"from an option beyond", example, 3, 0, ""},
		{"to an option beyond", example, 0, 3, ""},
		{"from a negative option", example, -1, 0, ""},
		{"to a negative option", example, 0, -1, ""},
		{"both beyond", example, 3, 3, ""},
		{"from a far option", example, math.MaxInt64, 0, ""},
		{"to a far option", example, 0, math.MinInt64, ""},
		{"to an option beyond bits", example, 0, 1<<32 + 1, ""},
	} {
		got, ok := impl.StrongestPath(profile(c.text), c.from, c.to)
		expectList(t, c.name, got, ok, options(c.path), c.path != "")
	}
}
