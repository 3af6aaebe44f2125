package tests

import (
	"math"
	"slices"
	"strings"
	"testing"

	"loop.example/g01095/impl"
)

// profileCalls are the functions of a profile alone.
func profileCalls(p impl.Profile) []call {
	return []call{
		{"ValidProfile", func() []any { return single(impl.ValidProfile(p)) }},
		{"ProfileText", func() []any { return pair(impl.ProfileText(p)) }},
		{"CountPairs", func() []any { return pair(impl.CountPairs(p)) }},
		{"BordaScores", func() []any { return pair(impl.BordaScores(p)) }},
		{"ReverseProfile", func() []any { return pair(impl.ReverseProfile(p)) }},
		{"DefeatsAll", func() []any { return pair(impl.DefeatsAll(p)) }},
		{"LeastDominating", func() []any { return pair(impl.LeastDominating(p)) }},
		{"PathStrengths", func() []any { return pair(impl.PathStrengths(p)) }},
		{"SchulzeWinners", func() []any { return pair(impl.SchulzeWinners(p)) }},
		{"DuelsOf", func() []any { return pair(impl.DuelsOf(p)) }},
		{"LockedDuels", func() []any { return pair(impl.LockedDuels(p)) }},
		{"RankedOrder", func() []any { return pair(impl.RankedOrder(p)) }},
		{"KemenyRanking", func() []any {
			ranking, least, ok := impl.KemenyRanking(p)
			return []any{ranking, least, ok}
		}},
	}
}

// optionCalls are the functions of a profile with two numbers, which are options or indices, and a list.
func optionCalls(p impl.Profile, a, b int64, list []int64) []call {
	return []call{
		{"RaiseOption", func() []any { return pair(impl.RaiseOption(p, a, b)) }},
		{"DropOption", func() []any { return pair(impl.DropOption(p, a)) }},
		{"StrongestPath", func() []any { return pair(impl.StrongestPath(p, a, b)) }},
		{"CircleOf", func() []any { return pair(impl.CircleOf(p, a)) }},
		{"DisagreementOf", func() []any { return pair(impl.DisagreementOf(p, list)) }},
	}
}

// unusualProfiles are small, full, invalid or very long.
func unusualProfiles() []impl.Profile {
	profiles := []impl.Profile{
		{Rankings: slices.Repeat([][]int64{{0}}, 50), Weights: make([]int64, 50)},
		{Rankings: [][]int64{others(50, -1)}, Weights: []int64{1}},
		{Rankings: [][]int64{make([]int64, 50), {0}}, Weights: []int64{1, 1}},
		{Rankings: make([][]int64, 50), Weights: make([]int64, 50)},
		{Rankings: [][]int64{{0}}, Weights: make([]int64, 50)},
	}
	for _, text := range []string{"0*a", "1*ba", "0*abc 0*bca", "4*abc 3*bca 2*cab", "1*ab 1*ba", "1*bcad 1*cdba 2*dabc 1*cabd", "1*abcdef 1*bcdefa 1*cdefab 1*defabc 1*efabcd 1*fabcde", fullProfile} {
		profiles = append(profiles, profile(text))
	}
	for _, p := range invalidProfiles() {
		profiles = append(profiles, p)
	}
	return profiles
}

func TestChapter6KeepsTheConventions(t *testing.T) {
	numbers := []int64{0, 1, 2, 5, 6, 14, 15, -1, math.MinInt64, math.MaxInt64}
	lists := append(notRankings(), nil, []int64{0}, []int64{1, 0}, []int64{2, 0, 1}, []int64{5, 4, 3, 2, 1, 0}, make([]int64, 50), others(50, -1))
	for _, p := range unusualProfiles() {
		p := roomy(p)
		checkCalls(t, profileCalls(p), p)
		for _, a := range numbers {
			for _, b := range numbers {
				checkCalls(t, optionCalls(p, a, b, nil), p)
			}
		}
		for _, list := range lists {
			list := roomy(list)
			checkCalls(t, optionCalls(p, 2, 1, list), p, list)
		}
	}
}

func TestReadProfileKeepsTheConventions(t *testing.T) {
	for _, s := range []string{
		"", "0*a\n", "4*abc\n3*bca\n2*cab\n", profileText(profile(fullProfile)), "\x00", "\xff*a\n", strings.Repeat("1*a\n", 100000), strings.Repeat("\n", 100000), strings.Repeat("*", 100000),
		"1*" + strings.Repeat("a", 100000) + "\n", strings.Repeat("1", 100000) + "*a\n", strings.Repeat("1*abc", 100000),
	} {
		checkCalls(t, []call{{"ReadProfile", func() []any { return pair(impl.ReadProfile(s)) }}}, s)
	}
}
