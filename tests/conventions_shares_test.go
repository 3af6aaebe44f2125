package tests

import (
	"math"
	"slices"
	"strings"
	"testing"

	"loop.example/g01095/impl"
)

// shareCalls are the functions of lists of shares, n being a member or a number of passes.
func shareCalls(list [][]impl.Share, received []impl.Fraction, n int64) []call {
	return []call{
		{"ValidShares", func() []any { return single(impl.ValidShares(list)) }},
		{"SharesText", func() []any { return pair(impl.SharesText(list)) }},
		{"KeptParts", func() []any { return pair(impl.KeptParts(list)) }},
		{"ReachedFrom", func() []any { return pair(impl.ReachedFrom(list, n)) }},
		{"TrappedMembers", func() []any { return pair(impl.TrappedMembers(list)) }},
		{"ReceivedOf", func() []any { return pair(impl.ReceivedOf(list)) }},
		{"IsSettled", func() []any { return single(impl.IsSettled(list, received)) }},
		{"PowersOf", func() []any { return pair(impl.PowersOf(list)) }},
		{"LostPart", func() []any { return pair(impl.LostPart(list)) }},
		{"EndsOf", func() []any { return pair(impl.EndsOf(list, n)) }},
		{"StepsOf", func() []any { return pair(impl.StepsOf(list, n)) }},
		{"AfterPasses", func() []any { return pair(impl.AfterPasses(list, n)) }},
		{"TakeBack", func() []any { return pair(impl.TakeBack(list, n)) }},
	}
}

func TestChapter3KeepsTheConventions(t *testing.T) {
	lists := [][][]impl.Share{make([][]impl.Share, 50), {make([]impl.Share, 50), nil}, {{}, {{To: 0, Part: 12}}}}
	for _, text := range []string{"", ";", "1:12;0:6,2:6;", "1:12;0:12;", "1:6,3:3;2:12;1:12;", ";;;;;", "1:12;2:12;3:12;4:12;5:12;0:12", fullShares} {
		lists = append(lists, shares(text))
	}
	for _, list := range invalidShares() {
		lists = append(lists, list)
	}
	for _, list := range lists {
		received, _ := impl.ReceivedOf(list)
		for _, amounts := range [][]impl.Fraction{nil, received, {frac(1, 0), frac(math.MinInt64, -1)}, slices.Repeat([]impl.Fraction{frac(1, 1)}, 50)} {
			for _, n := range []int64{0, 1, 2, 4, 5, 6, -1, math.MinInt64, math.MaxInt64} {
				list, amounts := roomy(list), roomy(amounts)
				checkCalls(t, shareCalls(list, amounts, n), list, amounts)
			}
		}
	}
}

func TestUnitSharesKeepsTheConventions(t *testing.T) {
	lists := [][]impl.Voice{voices("+"), voices("-1 +0"), voices("-1,2 -0 +"), voices("+ -"), voices("-5 -4 -3 -2 -1 -0"), voices(longest), make([]impl.Voice, 300)}
	for _, list := range invalidVoices() {
		lists = append(lists, list)
	}
	for _, list := range lists {
		list := roomy(list)
		checkCalls(t, []call{{"UnitShares", func() []any { return pair(impl.UnitShares(list)) }}}, list)
	}
}

func TestReadSharesKeepsTheConventions(t *testing.T) {
	for _, s := range []string{"", ";", "1:12;0:6,2:6;", fullShares, "\x00", "\xff;", strings.Repeat(";", 100000), strings.Repeat("1:1,", 100000), "1:" + strings.Repeat("1", 100000) + ";", strings.Repeat(":", 100000)} {
		checkCalls(t, []call{{"ReadShares", func() []any { return pair(impl.ReadShares(s)) }}}, s)
	}
}
