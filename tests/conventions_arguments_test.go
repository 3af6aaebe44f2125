package tests

import (
	"math"
	"slices"
	"strings"
	"testing"

	"loop.example/g01095/impl"
)

// frameCalls are the functions of a frame alone.
func frameCalls(f impl.Frame) []call {
	return []call{
		{"ValidFrame", func() []any { return single(impl.ValidFrame(f)) }},
		{"FrameText", func() []any { return pair(impl.FrameText(f)) }},
		{"RoundsOf", func() []any { return pair(impl.RoundsOf(f)) }},
		{"GroundedSet", func() []any { return pair(impl.GroundedSet(f)) }},
		{"CompleteSets", func() []any { return pair(impl.CompleteSets(f)) }},
		{"PreferredSets", func() []any { return pair(impl.PreferredSets(f)) }},
		{"StableSets", func() []any { return pair(impl.StableSets(f)) }},
		{"IdealSet", func() []any { return pair(impl.IdealSet(f)) }},
	}
}

// argumentCalls are the functions of a frame and an argument.
func argumentCalls(f impl.Frame, a int64) []call {
	return []call{
		{"AttackersOf", func() []any { return pair(impl.AttackersOf(f, a)) }},
		{"StandingOf", func() []any { return pair(impl.StandingOf(f, a)) }},
		{"DefenceOf", func() []any { return pair(impl.DefenceOf(f, a)) }},
		{"StrategyFor", func() []any { return pair(impl.StrategyFor(f, a)) }},
	}
}

// argumentSetCalls are the functions of a frame and a set.
func argumentSetCalls(f impl.Frame, set []int64) []call {
	return []call{
		{"IsConflictFree", func() []any { return single(impl.IsConflictFree(f, set)) }},
		{"DefendedBy", func() []any { return pair(impl.DefendedBy(f, set)) }},
		{"IsAdmissible", func() []any { return single(impl.IsAdmissible(f, set)) }},
		{"ReductOf", func() []any {
			reduct, names, ok := impl.ReductOf(f, set)
			return []any{reduct, names, ok}
		}},
	}
}

// discussionCalls are the functions of a frame, an argument, a strategy and moves.
func discussionCalls(f impl.Frame, a int64, s impl.Strategy, moves []int64) []call {
	return []call{
		{"IsStrategy", func() []any { return single(impl.IsStrategy(f, a, s)) }},
		{"Discuss", func() []any { return pair(impl.Discuss(f, a, s, moves)) }},
	}
}

// unusualFrames are small, full, invalid or very long.
func unusualFrames() []impl.Frame {
	frames := []impl.Frame{
		fullFrame(),
		{Count: 2, Attacks: slices.Repeat([][]int64{{0, 1}}, 200)},
		{Count: 2, Attacks: [][]int64{make([]int64, 200)}},
		{Count: 10, Attacks: make([][]int64, 200)},
	}
	for _, text := range []string{"0", "1", "1 0>0", "2 0>1", "2 0>1 1>0", "3 0>1 1>2", "4 0>1 1>0 1>2 2>3", "5 0>1 1>0 1>2 2>3 3>4 4>2", "10", chain} {
		frames = append(frames, frame(text))
	}
	for _, f := range invalidFrames() {
		frames = append(frames, f)
	}
	return frames
}

func TestChapter8KeepsTheConventions(t *testing.T) {
	numbers := []int64{0, 1, 2, 8, 9, 10, 11, 16, 63, 64, 1 << 32, -1, math.MinInt64, math.MaxInt64}
	lists := append(noSetsOf(2), nil, []int64{0}, []int64{1}, []int64{0, 2}, []int64{0, 2, 4, 6, 8}, others(10, -1), others(50, -1))
	for _, f := range unusualFrames() {
		f := roomy(f)
		checkCalls(t, frameCalls(f), f)
		for _, a := range numbers {
			checkCalls(t, argumentCalls(f, a), f)
		}
		for _, list := range lists {
			list := roomy(list)
			checkCalls(t, argumentSetCalls(f, list), f, list)
		}
	}
}

func TestDiscussionsKeepTheConventions(t *testing.T) {
	strategies := []impl.Strategy{
		{}, strategy("1", "-1"), strategy("1 0", "-1 0"), strategy("2 1", "1 0"), strategy("1 0 2", "-1 0 -1"), strategy("1 0 2", "-1 -2 3"), strategy("1 0 4", "-1 0 -1"), strategy("1 0 2 0", "-1 0 -1 2"),
		strategy("1 0 2 0 3 0 4 0 5 0", "-1 0 -1 2 -1 4 -1 6 -1 8"), strategy("9223372036854775807 -9223372036854775808 0", "9223372036854775807 -9223372036854775808 0"),
		{Ranks: make([]int64, 50), Replies: make([]int64, 50)}, {Ranks: slices.Repeat([]int64{math.MaxInt64}, 50)},
	}
	moves := [][]int64{nil, {}, {0}, {1}, {7, 5, 3, 1}, {7, 5, 3, 1, 1}, {-1}, {10}, {math.MaxInt64}, {math.MinInt64}, make([]int64, 50), slices.Repeat([]int64{1}, impl.MaxArguments+1)}
	for _, f := range unusualFrames() {
		f := roomy(f)
		for _, s := range strategies {
			s := roomy(s)
			for _, a := range []int64{0, 1, 2, 8, -1, math.MinInt64, math.MaxInt64} {
				checkCalls(t, discussionCalls(f, a, s, nil), f, s)
			}
			if !impl.IsStrategy(f, 2, s) {
				continue
			}
			for _, list := range moves {
				list := roomy(list)
				checkCalls(t, discussionCalls(f, 2, s, list), f, s, list)
				checkCalls(t, discussionCalls(f, f.Count-2, s, list), f, s, list)
			}
		}
	}
}

func TestReadFrameKeepsTheConventions(t *testing.T) {
	for _, s := range []string{
		"", "0", "1 0>0", "4 0>1 1>0 1>2 2>3", frameText(fullFrame()), " ", ">", "1 >", "\x00", "\xff 0>0", strings.Repeat(" ", 100000), strings.Repeat(">", 100000), strings.Repeat("1", 100000), "2" + strings.Repeat(" 0>1", 100000),
		"2 " + strings.Repeat("0>", 100000), "2 0>" + strings.Repeat("1", 100000), strings.Repeat("2 0>1\n", 100000),
	} {
		checkCalls(t, []call{{"ReadFrame", func() []any { return pair(impl.ReadFrame(s)) }}}, s)
	}
}
