package tests

import (
	"fmt"
	"math"
	"slices"
	"strings"
	"testing"

	"loop.example/g01095/impl"
)

// call is a function of chapter 2 with all arguments but the list of voices and two paths; it returns all its results.
type call struct {
	name string
	run  func(list []impl.Voice, p, q []int64) []any
}

func callsOfChapter2(rule, member, limit int64) []call {
	type voiceList = []impl.Voice
	return []call{
		{"ValidVoices", func(list voiceList, _, _ []int64) []any { return []any{impl.ValidVoices(list)} }},
		{"IsPath", func(list voiceList, p, _ []int64) []any { return []any{impl.IsPath(list, p)} }},
		{"RanksOf", func(list voiceList, p, _ []int64) []any { return pair(impl.RanksOf(list, p)) }},
		{"PathsOf", func(list voiceList, _, _ []int64) []any { return pair(impl.PathsOf(list, member)) }},
		{"ComparePaths", func(list voiceList, p, q []int64) []any { return pair(impl.ComparePaths(list, rule, p, q)) }},
		{"PathOf", func(list voiceList, _, _ []int64) []any { return pair(impl.PathOf(list, rule, member)) }},
		{"SettleVoices", func(list voiceList, _, _ []int64) []any { return pair(impl.SettleVoices(list, rule)) }},
		{"WeightsOf", func(list voiceList, _, _ []int64) []any { return pair(impl.WeightsOf(list, rule)) }},
		{"LostMembers", func(list voiceList, _, _ []int64) []any { return pair(impl.LostMembers(list)) }},
		{"FirstCircles", func(list voiceList, _, _ []int64) []any { return pair(impl.FirstCircles(list)) }},
		{"PassingThrough", func(list voiceList, _, _ []int64) []any { return pair(impl.PassingThrough(list, rule, member)) }},
		{"SilenceMember", func(list voiceList, _, _ []int64) []any { return pair(impl.SilenceMember(list, member)) }},
		{"CappedSettlement", func(list voiceList, _, _ []int64) []any { return pair(impl.CappedSettlement(list, limit)) }},
		{"CapProof", func(list voiceList, _, _ []int64) []any { return pair(impl.CapProof(list, limit)) }},
		{"VoicesText", func(list voiceList, _, _ []int64) []any { return pair(impl.VoicesText(list)) }},
	}
}

func pair[T any](result T, ok bool) []any { return []any{result, ok} }

// spareVoices returns a copy of a list in which all slices have unused capacity, and the function that reports whether all of it is as before.
func spareVoices(list []impl.Voice) ([]impl.Voice, func() bool) {
	var whole, before []impl.Voice
	var checks []func() bool
	for _, voice := range append(slices.Clone(list), impl.Voice{Trust: []int64{5}}, impl.Voice{Speaks: true, Trust: []int64{6}}) {
		trust, unchanged := spare(voice.Trust, 99)
		whole = append(whole, impl.Voice{Speaks: voice.Speaks, Trust: trust})
		before = append(before, impl.Voice{Speaks: voice.Speaks, Trust: slices.Clone(voice.Trust)})
		checks = append(checks, unchanged)
	}
	return whole[:len(list)], func() bool {
		for _, unchanged := range checks {
			if !unchanged() {
				return false
			}
		}
		return sameVoices(whole, before)
	}
}

// slicesOf returns all lists of numbers in the results of a call, with their unused capacity.
func slicesOf(results []any) [][]int64 {
	var all [][]int64
	for _, result := range results {
		switch r := result.(type) {
		case []int64:
			all = append(all, r[:cap(r)])
		case [][]int64:
			for _, list := range r {
				all = append(all, list[:cap(list)])
			}
		case []impl.Voice:
			for _, voice := range r {
				all = append(all, voice.Trust[:cap(voice.Trust)])
			}
		}
	}
	return all
}

// overwrite fills each list with a number of its own, and reports whether they still have it when all are filled.
func overwrite(lists [][]int64) bool {
	for i, list := range lists {
		for k := range list {
			list[k] = int64(1000 + i)
		}
	}
	for i, list := range lists {
		for _, n := range list {
			if n != int64(1000+i) {
				return false
			}
		}
	}
	return true
}

// checkCall checks the conventions for a call: it returns, gives equal results again, changes nothing, and gives out new memory.
func checkCall(t *testing.T, c call, list []impl.Voice, p, q []int64) {
	t.Helper()
	what := fmt.Sprintf("%s of %.60q, %.12v, %.12v", c.name, textOf(list), p, q)
	defer func() {
		if r := recover(); r != nil {
			t.Errorf("%s panics: %v", what, r)
		}
	}()
	list, unchanged := spareVoices(list)
	p, sameP := spare(p, 77)
	q, sameQ := spare(q, 88)
	first := c.run(list, p, q)
	printed := fmt.Sprint(first...)
	if !overwrite(slicesOf(first)) {
		t.Errorf("%s: its results share memory with one another", what)
	}
	if silent, ok := first[0].([]impl.Voice); ok {
		clear(silent[:cap(silent)])
	}
	if !unchanged() || !sameP() || !sameQ() {
		t.Errorf("%s changes an argument or gives out its memory", what)
	}
	if again := fmt.Sprint(c.run(list, p, q)...); again != printed {
		t.Errorf("%s: first %s, then %s", what, printed, again)
	}
}

func TestChapter2KeepsTheConventions(t *testing.T) {
	paths := [][]int64{nil, {0}, {0, 1}, {1, 0, 2}, {0, 2}, {-1}, {math.MaxInt64}, {0, math.MinInt64}, slices.Repeat([]int64{0}, 1000)}
	lists := [][]impl.Voice{make([]impl.Voice, 300), {{Trust: make([]int64, 300)}, {}}}
	for _, text := range []string{"+", "-", "-1,2 -0 +", "-1 -0 +0,1", "+1,2 +0,2 +1,0", "-1,2 -3 -4,5 -5 + +", longest} {
		lists = append(lists, voices(text))
	}
	for _, list := range invalidVoices() {
		lists = append(lists, list)
	}
	numbers := []int64{0, 1, 2, 3, 11, 12, 13, -1, math.MinInt64, math.MaxInt64}
	for _, list := range lists {
		for _, n := range numbers {
			for _, c := range callsOfChapter2(n, 0, n) {
				checkCall(t, c, list, paths[2], paths[4])
			}
			for _, c := range callsOfChapter2(impl.RuleSum, n, 1) {
				checkCall(t, c, list, paths[1], paths[1])
			}
		}
		for _, p := range paths {
			for _, c := range callsOfChapter2(impl.RuleDepth, 1, 2) {
				checkCall(t, c, list, p, paths[3])
				checkCall(t, c, list, paths[3], p)
			}
		}
	}
}

func TestReadVoicesKeepsTheConventions(t *testing.T) {
	texts := []string{"", "+", "-1,2 -0 +", longest, "\x00", "\xff+", strings.Repeat("+ ", 100000), strings.Repeat(" ", 100000), "-" + strings.Repeat("0,", 100000), "-" + strings.Repeat("1", 100000)}
	for _, s := range texts {
		twice(t, fmt.Sprintf("ReadVoices of %.20q", s), func() string { return fmt.Sprint(pair(impl.ReadVoices(s))...) })
	}
	first, _ := impl.ReadVoices(longest)
	if !overwrite(slicesOf([]any{first})) {
		t.Error("the results of ReadVoices share memory with one another")
	}
	if again, ok := impl.ReadVoices(longest); !ok || textOf(again) != longest {
		t.Errorf("ReadVoices after its result was changed: got %q", textOf(again))
	}
}
