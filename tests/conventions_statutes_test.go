package tests

import (
	"math"
	"slices"
	"strings"
	"testing"

	"loop.example/g01095/impl"
)

// statuteCalls are the functions of two statutes and a patch.
func statuteCalls(a, b []impl.Article, p []impl.Edit) []call {
	return []call{
		{"ValidStatute", func() []any { return single(impl.ValidStatute(a)) }},
		{"ApplyPatch", func() []any { return pair(impl.ApplyPatch(a, p)) }},
		{"DiffStatutes", func() []any { return pair(impl.DiffStatutes(a, b)) }},
		{"StatuteText", func() []any { return pair(impl.StatuteText(a)) }},
	}
}

// patchCalls are the functions of patches alone.
func patchCalls(p, q []impl.Edit) []call {
	return []call{
		{"ValidPatch", func() []any { return single(impl.ValidPatch(p)) }},
		{"InversePatch", func() []any { return pair(impl.InversePatch(p)) }},
		{"ComposePatches", func() []any { return pair(impl.ComposePatches(p, q)) }},
		{"ConflictsOf", func() []any { return pair(impl.ConflictsOf(p, q)) }},
		{"MergePatches", func() []any { return pair(impl.MergePatches(p, q)) }},
		{"RebasePatch", func() []any { return pair(impl.RebasePatch(p, q)) }},
		{"PatchText", func() []any { return pair(impl.PatchText(p)) }},
	}
}

// actCalls are the functions of acts, which some days, Ids and indices are tried with.
func actCalls(base []impl.Article, list []impl.Act, day, number int64) []call {
	return []call{
		{"ValidActs", func() []any { return single(impl.ValidActs(list)) }},
		{"ActsInForce", func() []any { return pair(impl.ActsInForce(list, day)) }},
		{"TextOn", func() []any { return pair(impl.TextOn(base, list, day)) }},
		{"ChangeDays", func() []any { return pair(impl.ChangeDays(base, list)) }},
		{"BrokenDays", func() []any { return pair(impl.BrokenDays(base, list)) }},
		{"SourceOf", func() []any { return pair(impl.SourceOf(base, list, day, number)) }},
		{"EndAct", func() []any { return pair(impl.EndAct(base, list, number, day)) }},
	}
}

// unusualStatutes are small, full, invalid or very long.
func unusualStatutes() [][]impl.Article {
	list := [][]impl.Article{slices.Repeat([]impl.Article{{Id: 1, Text: "a"}}, 50), {{Id: 1, Text: strings.Repeat("a ", 500)}}}
	for _, text := range []string{"", "1 a", "1 b", "2 c", "1 a;2 b", "1 a;2 b;3 c;4 d;5 e;6 f;7 g;8 h", "50 a;99 b"} {
		list = append(list, statute(text))
	}
	for _, s := range invalidStatutes() {
		list = append(list, s)
	}
	return list
}

// unusualPatches are small, full, invalid or very long.
func unusualPatches() [][]impl.Edit {
	list := [][]impl.Edit{slices.Repeat(patch("+1 a"), 50), {{Kind: impl.EditAdd, Id: 1, New: strings.Repeat("a ", 500)}}, addAll(1, impl.MaxEdits), addAll(20, impl.MaxEdits)}
	for _, text := range []string{"", "+1 a", "-1 a", "~1 a|b", "~1 b|a", "+1 b", "-1 a;-2 b;+9 a", "-1 a;~2 b|c;-8 h", "+1 a;-2 b"} {
		list = append(list, patch(text))
	}
	for _, p := range invalidPatches() {
		list = append(list, p)
	}
	return list
}

// unusualActs are few, many, invalid or very long.
func unusualActs() [][]impl.Act {
	shared := addAll(9, impl.MaxEdits/2)
	list := [][]impl.Act{
		nil, acts("3 7 +1 a"), acts("3 7 +1 a", "5 1000 ~1 a|b"), acts("0 1000 -1 a"), acts("0 2 -2 a", "3 9 +9 a", "500 501 -1 a", "999 1000 +5 a"), acts("1 9 +1 a", "2 8 +2 a", "3 7 +3 a", "4 6 +4 a"),
		slices.Repeat(acts("3 9 "), impl.MaxActs), slices.Repeat(acts("3 9 "), 100), {{From: 0, Until: 9, Patch: slices.Repeat(patch("+1 a"), 50)}},
		{{From: 2, Until: 9, Patch: shared}, {From: 10, Until: 20, Patch: shared}, {From: 30, Until: 40, Patch: shared[:2]}},
	}
	for _, acts := range invalidActs() {
		list = append(list, acts)
	}
	return list
}

func TestChapter7KeepsTheConventions(t *testing.T) {
	statutes, patches := unusualStatutes(), unusualPatches()
	for i, a := range statutes {
		a := roomy(a)
		checkCalls(t, statuteCalls(a, a, nil), a)
		for _, b := range statutes[:min(i, 9)] {
			b := roomy(b)
			checkCalls(t, statuteCalls(a, b, nil), a, b)
			checkCalls(t, statuteCalls(b, a, nil), a, b)
		}
		for _, p := range patches[:13] {
			p := roomy(p)
			checkCalls(t, statuteCalls(a, nil, p), a, p)
		}
	}
	for i, p := range patches {
		p := roomy(p)
		checkCalls(t, patchCalls(p, p), p)
		for _, q := range patches[:min(i, 13)] {
			q := roomy(q)
			checkCalls(t, patchCalls(p, q), p, q)
			checkCalls(t, patchCalls(q, p), p, q)
		}
		checkCalls(t, statuteCalls(statute("1 a"), nil, p), p)
	}
}

func TestActsKeepTheConventions(t *testing.T) {
	days := []int64{0, 3, 4, 6, 8, 999, 1000, -1, math.MinInt64, math.MaxInt64}
	ids := []int64{0, 1, 2, 7, 9, 100, -1, math.MinInt64, math.MaxInt64}
	bases := [][]impl.Article{nil, statute("1 a;2 b"), statute("1 a;1 b")}
	for _, list := range unusualActs() {
		list := roomy(list)
		for _, base := range bases {
			base := roomy(base)
			checkCalls(t, actCalls(base, list, 4, 0), base, list)
			if len(list) > impl.MaxActs || !impl.ValidActs(list) {
				continue
			}
			for _, day := range days {
				for _, id := range ids {
					checkCalls(t, actCalls(base, list, day, id), base, list)
				}
			}
		}
	}
	for _, base := range unusualStatutes() {
		base, list := roomy(base), acts("3 7 +9 a", "5 1000 ~9 a|b")
		checkCalls(t, actCalls(base, list, 6, 9), base, list)
		checkCalls(t, actCalls(base, list, 4, 0), base, list)
	}
}

func TestReadingStatutesKeepsTheConventions(t *testing.T) {
	for _, s := range []string{
		"", "1 a\n", "1 a\n2 b\n", "+1 a\n-2 b\n~3 c|d\n", patchText(addAll(1, impl.MaxEdits)), "\n", "\x00", "\xff\xfe\n", "~\n", "+\n", "~1 |\n", strings.Repeat("\n", 100000), strings.Repeat("1 a\n", 100000), strings.Repeat("+1 a\n", 100000),
		strings.Repeat("~", 100000), strings.Repeat("|", 100000) + "\n", "1 " + strings.Repeat("a", 100000) + "\n", strings.Repeat("1", 100000) + " a\n", "~1 a" + strings.Repeat("|a", 100000) + "\n", strings.Repeat(" ", 100000),
	} {
		checkCalls(t, []call{
			{"ReadStatute", func() []any { return pair(impl.ReadStatute(s)) }},
			{"ReadPatch", func() []any { return pair(impl.ReadPatch(s)) }},
		}, s)
	}
}
