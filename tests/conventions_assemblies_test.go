package tests

import (
	"fmt"
	"math"
	"slices"
	"strings"
	"testing"

	"loop.example/g01095/impl"
)

// assemblyCalls are the functions of assemblies alone.
func assemblyCalls(a, b impl.Assembly) []call {
	return []call{
		{"ValidAssembly", func() []any { return single(impl.ValidAssembly(a)) }},
		{"SameAssembly", func() []any { return single(impl.SameAssembly(a, b)) }},
		{"TextToday", func() []any { return pair(impl.TextToday(a)) }},
	}
}

// motionCalls are the functions of a motion of an assembly, which some votes and members are tried with.
func motionCalls(a impl.Assembly, title string, number int64) []call {
	return []call{
		{"VoicesFor", func() []any { return pair(impl.VoicesFor(a, title)) }},
		{"CountOf", func() []any { return pair(impl.CountOf(a, title)) }},
		{"VerdictOf", func() []any { return pair(impl.VerdictOf(a, title)) }},
		{"CountedFor", func() []any { return pair(impl.CountedFor(a, title, number)) }},
		{"CountWithout", func() []any { return pair(impl.CountWithout(a, title, number)) }},
		{"SwingMembers", func() []any { return pair(impl.SwingMembers(a, title)) }},
		{"LeadersOf", func() []any { return pair(impl.LeadersOf(a, title)) }},
	}
}

// deedCalls are the functions of deeds.
func deedCalls(a impl.Assembly, list []impl.Deed) []call {
	calls := []call{{"DoDeeds", func() []any {
		after, done, ok := impl.DoDeeds(a, list)
		return []any{after, done, ok}
	}}}
	for _, d := range list[:min(len(list), 3)] {
		calls = append(calls,
			call{"ValidDeed", func() []any { return single(impl.ValidDeed(d)) }},
			call{"DoDeed", func() []any { return pair(impl.DoDeed(a, d)) }},
		)
	}
	return calls
}

// unusualAssemblies are small, full, invalid or very large.
func unusualAssemblies() []impl.Assembly {
	list := []impl.Assembly{
		fullAssembly(), assembly("-"), assembly("- -0 -", "park y.n 1 2 9 +1 a"), under(assembly("-", "park y 1 2 9 -1 a;+2 a"), "1 a", acts("0 9 ", "1 1000 ")),
		{Trust: make([][]int64, 500)}, {Trust: [][]int64{make([]int64, 500)}}, {Trust: [][]int64{nil}, Motions: make([]impl.Motion, 100)}, {Trust: [][]int64{nil}, Acts: make([]impl.Act, 200)}, {Trust: [][]int64{nil}, Base: make([]impl.Article, 200)},
		{Trust: [][]int64{nil}, Motions: []impl.Motion{{Title: strings.Repeat("a", 1000), Votes: make([]int64, 500)}}}, changed(assembly("-", "park y 1 2 9 +1 a"), func(a *impl.Assembly) { a.Motions[0].Patch = slices.Repeat(patch("+1 a"), 200) }),
	}
	for _, a := range invalidAssemblies() {
		list = append(list, a)
	}
	return list
}

// unusualDeeds are lists of deeds that can be done, that cannot, that are invalid or very many.
func unusualDeeds() [][]impl.Deed {
	list := [][]impl.Deed{
		nil, {}, deeds("next"), deeds("trust 0 1,2", "trust 1", "vote 0 park yes"), deeds("propose 0 dogs 7 8 9 +9 a;+10 a", "next", "vote 1 dogs no"), deeds("next", "next", "propose 0 dogs 7 8 9 +9 a", "trust 0", "next", "next", "next", "next", "next", "next"),
		slices.Repeat(deeds("next"), impl.MaxDeeds), slices.Repeat(deeds("trust 0 2,1"), impl.MaxDeeds), slices.Repeat(deeds("next"), impl.MaxDeeds+1), slices.Repeat(deeds("next"), 100), make([]impl.Deed, 3),
		{{Kind: impl.DeedTrust, Trust: make([]int64, 500)}, {Kind: impl.DeedVote, Title: strings.Repeat("a", 1000)}, {Kind: impl.DeedPropose, Title: "dogs", Patch: make([]impl.Edit, 200), From: 1, Until: 2, Closes: 1}},
	}
	for _, d := range invalidDeeds() {
		list = append(list, []impl.Deed{d})
	}
	return list
}

func TestAssembliesKeepTheConventions(t *testing.T) {
	first := roomy(assembly("- -0 -", "park y.n 1 2 9 +1 a"))
	for _, a := range unusualAssemblies() {
		a := roomy(a)
		checkCalls(t, assemblyCalls(a, first), a, first)
		checkCalls(t, assemblyCalls(first, a), a, first)
		checkCalls(t, motionCalls(a, "park", 1), a)
		checkCalls(t, deedCalls(a, deeds("vote 0 park yes", "trust 0", "next")), a)
	}
	for _, a := range randomAssemblies(330, 100, 20) {
		a := roomy(a)
		checkCalls(t, assemblyCalls(a, a), a)
		for _, m := range a.Motions {
			checkCalls(t, motionCalls(a, m.Title, 2), a)
		}
	}
}

func TestMotionsKeepTheConventions(t *testing.T) {
	for _, a := range []impl.Assembly{fullAssembly(), assembly("- -0 -", "park y.n 1 2 9 +1 a"), under(assembly("- -", "park y. 1 2 9 +1 a"), "1 a", nil)} {
		a := roomy(a)
		for _, number := range []int64{-1, 0, 1, 2, 3, 4, 11, 12, 1 << 32, math.MaxInt64, math.MinInt64} {
			for _, title := range []string{"park", "tax", "a", "", "\xff", strings.Repeat("park", 1000)} {
				checkCalls(t, motionCalls(a, title, number), a)
			}
		}
	}
}

func TestDeedsKeepTheConventions(t *testing.T) {
	for _, a := range []impl.Assembly{fullAssembly(), assembly("- -0 -", "park y.n 1 2 9 +1 a", "tax yy. 1 3 9 -1 a"), changed(fullAssembly(), func(a *impl.Assembly) { a.Motions, a.Acts = a.Motions[3:], a.Acts[:3] })} {
		a := roomy(a)
		for _, list := range unusualDeeds() {
			list := roomy(list)
			checkCalls(t, deedCalls(a, list), a, list)
		}
	}
}

// The parts of an assembly, and those of deeds, can be the same list, or lie in the unused capacity of one another.
func TestSharedListsKeepTheConventions(t *testing.T) {
	trust, edits := numbers("1,2,0"), addAll(5, 4)
	a := assembly("- - -", "park yy. 1 2 9 +1 a", "tax yy. 1 3 9 +1 a")
	a.Trust[0], a.Trust[1], a.Trust[2] = trust[:2], trust[1:], trust[2:]
	a.Motions[0].Patch, a.Motions[1].Patch = edits[:2], edits[2:]
	a.Motions[1].Votes = a.Motions[0].Votes
	a.Acts = []impl.Act{{From: 0, Until: 2, Patch: edits[:3]}, {From: 3, Until: 9, Patch: edits[:1]}}
	list := append(deeds("vote 2 park yes", "vote 2 tax no", "next"), impl.Deed{Kind: impl.DeedTrust, Member: 0, Trust: trust[:1]}, impl.Deed{Kind: impl.DeedTrust, Member: 1, Trust: trust[1:2]})
	list = append(list, impl.Deed{Kind: impl.DeedPropose, Title: "a", Closes: 3, From: 4, Until: 5, Patch: edits[:2]}, impl.Deed{Kind: impl.DeedPropose, Title: "b", Closes: 3, From: 4, Until: 5, Patch: edits[1:]})
	after, done, ok := impl.DoDeeds(a, list)
	expect(t, "DoDeeds of shared lists", done, ok, int64(len(list)), true)
	checkAssembly(t, "an assembly of shared lists", after, true)
	checkCalls(t, assemblyCalls(a, a), a)
	for i := range list {
		checkCalls(t, motionCalls(a, "park", int64(i)), a)
		checkCalls(t, deedCalls(a, list[i:]), a, list)
	}
}

func TestNewAssembliesKeepTheConventions(t *testing.T) {
	check := func(members, rule int64, base []impl.Article) {
		checkCalls(t, []call{{fmt.Sprint("NewAssembly ", members, rule), func() []any { return pair(impl.NewAssembly(members, rule, base)) }}}, base)
	}
	for _, base := range unusualStatutes() {
		base := roomy(base)
		for _, members := range []int64{0, 1, 12, 13} {
			check(members, impl.RuleSum, base)
		}
	}
	for _, n := range []int64{-1, 0, 3, 13, 1 << 32, 1 << 62, math.MaxInt64, math.MinInt64} {
		check(n, 0, nil)
		check(1, n, nil)
		check(n, n, nil)
	}
}
