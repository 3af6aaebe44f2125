package tests

import (
	"math"
	"slices"
	"strings"
	"testing"

	"loop.example/g01095/impl"
)

// voiceCalls are the functions of lists of voices with the arguments of a list and two paths.
func voiceCalls(list []impl.Voice, rule, member, limit int64, p, q []int64) []call {
	return []call{
		{"ValidVoices", func() []any { return single(impl.ValidVoices(list)) }},
		{"IsPath", func() []any { return single(impl.IsPath(list, p)) }},
		{"RanksOf", func() []any { return pair(impl.RanksOf(list, p)) }},
		{"PathsOf", func() []any { return pair(impl.PathsOf(list, member)) }},
		{"ComparePaths", func() []any { return pair(impl.ComparePaths(list, rule, p, q)) }},
		{"PathOf", func() []any { return pair(impl.PathOf(list, rule, member)) }},
		{"SettleVoices", func() []any { return pair(impl.SettleVoices(list, rule)) }},
		{"WeightsOf", func() []any { return pair(impl.WeightsOf(list, rule)) }},
		{"LostMembers", func() []any { return pair(impl.LostMembers(list)) }},
		{"FirstCircles", func() []any { return pair(impl.FirstCircles(list)) }},
		{"PassingThrough", func() []any { return pair(impl.PassingThrough(list, rule, member)) }},
		{"SilenceMember", func() []any { return pair(impl.SilenceMember(list, member)) }},
		{"CappedSettlement", func() []any { return pair(impl.CappedSettlement(list, limit)) }},
		{"CapProof", func() []any { return pair(impl.CapProof(list, limit)) }},
		{"VoicesText", func() []any { return pair(impl.VoicesText(list)) }},
	}
}

func checkVoiceCalls(t *testing.T, list []impl.Voice, rule, member, limit int64, p, q []int64) {
	t.Helper()
	list, p, q = roomy(list), roomy(p), roomy(q)
	checkCalls(t, voiceCalls(list, rule, member, limit, p, q), list, p, q)
}

func TestChapter2KeepsTheConventions(t *testing.T) {
	paths := [][]int64{nil, {0}, {0, 1}, {1, 0, 2}, {0, 2}, {-1}, {math.MaxInt64}, {0, math.MinInt64}, slices.Repeat([]int64{0}, 300)}
	lists := [][]impl.Voice{make([]impl.Voice, 300), {{Trust: make([]int64, 300)}, {}}}
	for _, text := range []string{"+", "-", "-1,2 -0 +", "-1 -0 +0,1", "+1,2 +0,2 +1,0", "-1,2 -3 -4,5 -5 + +", longest} {
		lists = append(lists, voices(text))
	}
	for _, list := range invalidVoices() {
		lists = append(lists, list)
	}
	numbers := []int64{0, 1, 2, 3, 11, 12, 13, -1, math.MinInt64, math.MaxInt64}
	for _, list := range lists {
		for _, n := range numbers {
			checkVoiceCalls(t, list, n, 0, n, paths[2], paths[4])
			checkVoiceCalls(t, list, impl.RuleSum, n, 1, paths[1], paths[1])
		}
		for _, p := range paths {
			checkVoiceCalls(t, list, impl.RuleDepth, 1, 2, p, paths[3])
			checkVoiceCalls(t, list, impl.RuleDepth, 1, 2, paths[3], p)
		}
	}
}

func TestReadVoicesKeepsTheConventions(t *testing.T) {
	for _, s := range []string{"", "+", "-1,2 -0 +", longest, "\x00", "\xff+", strings.Repeat("+ ", 100000), strings.Repeat(" ", 100000), "-" + strings.Repeat("0,", 100000), "-" + strings.Repeat("1", 100000)} {
		checkCalls(t, []call{{"ReadVoices", func() []any { return pair(impl.ReadVoices(s)) }}}, s)
	}
}
