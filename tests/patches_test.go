package tests

import (
	"fmt"
	"math/rand"
	"slices"
	"testing"

	"loop.example/g01095/impl"
)

// patchPairs are all pairs of small patches and random ones, which often follow one another, or have edits in common.
func patchPairs(seed int64, count int) [][2][]impl.Edit {
	var pairs [][2][]impl.Edit
	small := smallPatches([]int64{1, 99}, "a", "b")
	for _, p := range small {
		for _, q := range small {
			pairs = append(pairs, [2][]impl.Edit{p, q})
		}
	}
	for _, e := range smallEdits(7, "a", "b", "c") {
		for _, f := range smallEdits(7, "a", "b", "c") {
			pairs = append(pairs, [2][]impl.Edit{{e}, {f}})
		}
	}
	random := rand.New(rand.NewSource(seed))
	for range count {
		s := randomStatute(random)
		p := randomPatch(random, s)
		after, ok := applyIn(s, p)
		if !ok || random.Intn(2) == 0 {
			after = s
		}
		q := randomPatch(random, after)
		if random.Intn(3) == 0 {
			q = someOfBoth(random, p, q)
		}
		pairs = append(pairs, [2][]impl.Edit{p, q})
	}
	return pairs
}

// someOfBoth returns a patch with edits of two, one for each Id.
func someOfBoth(random *rand.Rand, p, q []impl.Edit) []impl.Edit {
	var some []impl.Edit
	for id := range int64(impl.MaxId + 1) {
		x, hasX := editAt(p, id)
		y, hasY := editAt(q, id)
		if hasX && random.Intn(2) == 0 {
			some = append(some, x)
		} else if hasY && (!hasX || random.Intn(9) == 0) {
			some = append(some, y)
		}
	}
	return some[:min(len(some), impl.MaxEdits)]
}

func TestPatchPairs(t *testing.T) {
	composed, merged, conflicts := 0, 0, 0
	for _, both := range patchPairs(110, 8000) {
		p, q := both[0], both[1]
		what := fmt.Sprintf(" of %q and %q", patchText(p), patchText(q))
		want, wantOK := atBoth(p, q, inOneStep)
		got, ok := impl.ComposePatches(p, q)
		expectList(t, "ComposePatches"+what, got, ok, want, wantOK)
		if wantOK && len(want) < len(p)+len(q) {
			composed++
		}
		ids, ok := impl.ConflictsOf(p, q)
		expectList(t, "ConflictsOf"+what, ids, ok, conflictsIn(p, q), true)
		want, wantOK = atBoth(p, q, onlyEqual)
		got, ok = impl.MergePatches(p, q)
		expectList(t, "MergePatches"+what, got, ok, want, wantOK)
		if wantOK && len(want) < len(p)+len(q) {
			merged++
		}
		if len(ids) > 0 {
			conflicts++
		}
		want, wantOK = nil, len(ids) == 0
		for _, e := range q {
			if wantOK && !slices.Contains(p, e) {
				want = append(want, e)
			}
		}
		got, ok = impl.RebasePatch(p, q)
		expectList(t, "RebasePatch"+what, got, ok, want, wantOK)
	}
	if composed < 1000 || merged < 1000 || conflicts < 1000 {
		t.Errorf("only %d composed pairs that have an Id in common, %d merged ones, and %d in conflict", composed, merged, conflicts)
	}
}

// apply applies patches one after another.
func apply(s []impl.Article, patches ...[]impl.Edit) ([]impl.Article, bool) {
	for _, p := range patches {
		after, ok := impl.ApplyPatch(s, p)
		if !ok {
			return nil, false
		}
		s = after
	}
	return s, true
}

// TestComposedPatchesDoBoth applies composed patches to all statutes of a few articles, and to random ones.
func TestComposedPatchesDoBoth(t *testing.T) {
	small := smallPatches([]int64{1, 99}, "a", "b")
	for _, s := range smallStatutes([]int64{1, 99}, "a", "b") {
		for _, p := range small {
			for _, q := range small {
				checkComposed(t, s, p, q)
			}
		}
	}
	random := rand.New(rand.NewSource(111))
	both := 0
	for range 10000 {
		s := randomStatute(random)
		p := randomPatch(random, s)
		after, _ := applyIn(s, p)
		if checkComposed(t, s, p, randomPatch(random, after)) {
			both++
		}
	}
	if both < 1000 {
		t.Errorf("only %d pairs of patches can be applied one after another", both)
	}
}

// checkComposed checks that a composed patch does what both patches do if these can be applied, and reports whether they can. The
// composed patch then leads from one statute to another one, without more edits than are needed.
func checkComposed(t *testing.T, s []impl.Article, p, q []impl.Edit) bool {
	t.Helper()
	want, ok := apply(s, p, q)
	if !ok {
		return false
	}
	what := fmt.Sprintf("%q and %q in one step", patchText(p), patchText(q))
	composed, isComposed := impl.ComposePatches(p, q)
	after, isApplied := impl.ApplyPatch(s, composed)
	expectList(t, fmt.Sprintf("%v after %s", s, what), after, isComposed && isApplied, want, true)
	needed, _ := impl.DiffStatutes(s, want)
	expectList(t, what, composed, isComposed, needed, true)
	return true
}

func TestPatchAndInverseComeToNothing(t *testing.T) {
	random := rand.New(rand.NewSource(112))
	patches := append(smallPatches([]int64{1, 50, 99}, "a", "b"), addAll(1, impl.MaxEdits), addAll(84, impl.MaxEdits))
	for range 2000 {
		patches = append(patches, randomPatch(random, randomStatute(random)))
	}
	for _, p := range patches {
		back, _ := impl.InversePatch(p)
		nothing, ok := impl.ComposePatches(p, back)
		expectList(t, fmt.Sprintf("%q and its inverse", patchText(p)), nothing, ok, nil, true)
		nothing, ok = impl.ComposePatches(back, p)
		expectList(t, fmt.Sprintf("the inverse of %q and this", patchText(p)), nothing, ok, nil, true)
		same, ok := impl.MergePatches(p, p)
		expectList(t, fmt.Sprintf("%q merged with itself", patchText(p)), same, ok, p, true)
		nothing, ok = impl.RebasePatch(p, p)
		expectList(t, fmt.Sprintf("%q behind itself", patchText(p)), nothing, ok, nil, true)
	}
}

// TestMergedPatchesInEitherOrder checks that patches that merge lead to one statute, whichever is applied first.
func TestMergedPatchesInEitherOrder(t *testing.T) {
	random := rand.New(rand.NewSource(113))
	count, shared := 0, 0
	for range 10000 {
		s := randomStatute(random)
		p, q := randomPatch(random, s), randomPatch(random, s)
		if random.Intn(2) == 0 {
			q = someOfBoth(random, p, q)
		}
		merged, ok := impl.MergePatches(p, q)
		other, isOther := impl.MergePatches(q, p)
		expectList(t, fmt.Sprintf("%q and %q merged", patchText(p), patchText(q)), merged, ok, other, isOther)
		want, isApplied := apply(s, merged)
		if !ok || !isApplied {
			continue
		}
		restOfQ, isQ := impl.RebasePatch(p, q)
		restOfP, isP := impl.RebasePatch(q, p)
		if !isQ || !isP {
			t.Errorf("%q and %q merge, but cannot be rebased", patchText(p), patchText(q))
		}
		for _, order := range [][2][]impl.Edit{{p, restOfQ}, {q, restOfP}} {
			// A statute between both may have too many articles.
			if after, ok := apply(s, order[0], order[1]); ok {
				expectList(t, fmt.Sprintf("%v after %q and then %q", s, patchText(order[0]), patchText(order[1])), after, ok, want, true)
				count++
			}
		}
		if len(merged) < len(p)+len(q) {
			shared++
		}
	}
	if count < 2000 || shared < 500 {
		t.Errorf("only %d orders of patches that merge, and %d pairs with a shared edit", count, shared)
	}
}

func TestComposeCases(t *testing.T) {
	sixteen := brief(patchText(addAll(1, 16)))
	for _, c := range []struct{ p, q, want string }{
		{"", "", ""}, {"+1 a", "", "+1 a"}, {"", "~1 a|b", "~1 a|b"}, {"+2 a", "-1 b", "-1 b;+2 a"}, {"-1 a;+3 c", "~2 x|y;+4 d", "-1 a;~2 x|y;+3 c;+4 d"},
		{"+1 a", "-1 a", ""}, {"+1 a", "~1 a|b", "+1 b"}, {"-1 a", "+1 a", ""}, {"-1 a", "+1 b", "~1 a|b"}, {"~1 a|b", "-1 b", "-1 a"}, {"~1 a|b", "~1 b|c", "~1 a|c"}, {"~1 a|b", "~1 b|a", ""},
		{"+1 a;~5 a|b;-9 c", "~1 a|d;-5 b;+9 e", "+1 d;-5 a;~9 c|e"}, {"+1 a;+2 b;+3 c", "-2 b", "+1 a;+3 c"},
		{sixteen, "", sixteen}, {"", sixteen, sixteen}, {sixteen, "~1 a|b", "+1 b;" + sixteen[5:]}, {sixteen, "-1 a;+17 a", brief(patchText(addAll(2, 16)))}, {sixteen, brief(patchText(inverseIn(addAll(1, 16)))), ""},
		{brief(patchText(addAll(1, 8))), brief(patchText(addAll(9, 8))), sixteen}, {brief(patchText(addAll(9, 8))), brief(patchText(addAll(1, 8))), sixteen},
		{sixteen, "-2 a;-3 a;+20 a", "+1 a;" + brief(patchText(addAll(4, 13))) + ";+20 a"},
	} {
		got, ok := impl.ComposePatches(patch(c.p), patch(c.q))
		expectList(t, "ComposePatches of "+c.p+" and "+c.q, got, ok, patch(c.want), true)
	}
	for _, c := range [][2]string{
		{"+1 a", "+1 a"}, {"+1 a", "+1 b"}, {"+1 a", "-1 b"}, {"+1 a", "~1 b|a"}, {"+1 a", "~1 b|c"}, {"-1 a", "-1 a"}, {"-1 a", "-1 b"}, {"-1 a", "~1 a|b"}, {"-1 a", "~1 b|a"},
		{"~1 a|b", "+1 a"}, {"~1 a|b", "+1 b"}, {"~1 a|b", "+1 c"}, {"~1 a|b", "-1 a"}, {"~1 a|b", "-1 c"}, {"~1 a|b", "~1 a|b"}, {"~1 a|b", "~1 a|c"}, {"~1 a|b", "~1 c|a"},
		{"+1 a;+2 b", "-1 a;-2 a"}, {"+1 a;+2 b", "-1 b;-2 b"}, {sixteen, "+17 a"}, {"+17 a", sixteen}, {sixteen, "~1 a|b;-99 a"}, {sixteen, "-1 a;+17 a;+18 a"},
		{brief(patchText(addAll(1, 9))), brief(patchText(addAll(10, 8)))}, {sixteen, brief(patchText(addAll(17, 16)))},
	} {
		got, ok := impl.ComposePatches(patch(c[0]), patch(c[1]))
		expectList(t, "ComposePatches of "+c[0]+" and "+c[1], got, ok, nil, false)
	}
}

func TestMergeCases(t *testing.T) {
	sixteen := brief(patchText(addAll(1, 16)))
	for _, c := range []struct{ p, q, merged, rest string }{
		{"", "", "", ""}, {"+1 a", "", "+1 a", ""}, {"", "+1 a", "+1 a", "+1 a"}, {"+1 a", "+1 a", "+1 a", ""}, {"-1 a", "-1 a", "-1 a", ""}, {"~1 a|b", "~1 a|b", "~1 a|b", ""},
		{"+2 a", "-1 b", "-1 b;+2 a", "-1 b"}, {"+1 a;-3 b", "~2 a|b;-3 b;+4 c", "+1 a;~2 a|b;-3 b;+4 c", "~2 a|b;+4 c"},
		{sixteen, sixteen, sixteen, ""}, {sixteen, "+16 a", sixteen, ""}, {"+1 a", sixteen, sixteen, sixteen[5:]},
		{brief(patchText(addAll(1, 8))), brief(patchText(addAll(9, 8))), sixteen, brief(patchText(addAll(9, 8)))}, {brief(patchText(addAll(8, 9))), brief(patchText(addAll(1, 8))), sixteen, brief(patchText(addAll(1, 7)))},
	} {
		what := " of " + c.p + " and " + c.q
		got, ok := impl.MergePatches(patch(c.p), patch(c.q))
		expectList(t, "MergePatches"+what, got, ok, patch(c.merged), true)
		got, ok = impl.RebasePatch(patch(c.p), patch(c.q))
		expectList(t, "RebasePatch"+what, got, ok, patch(c.rest), true)
		ids, ok := impl.ConflictsOf(patch(c.p), patch(c.q))
		expectList(t, "ConflictsOf"+what, ids, ok, nil, true)
	}
	for _, c := range []struct {
		p, q string
		ids  string
	}{
		{"+1 a", "+1 b", "1"}, {"+1 a", "-1 a", "1"}, {"+1 a", "~1 a|b", "1"}, {"-1 a", "-1 b", "1"}, {"-1 a", "~1 a|b", "1"}, {"~1 a|b", "~1 a|c", "1"}, {"~1 a|b", "~1 c|b", "1"}, {"~1 a|b", "~1 b|a", "1"},
		{"+1 a;+2 b;+3 c;+4 d", "+1 b;+2 b;-3 c;+5 e", "1,3"}, {"+98 a;+99 a", "-98 a;-99 a", "98,99"}, {sixteen, "-1 a;+16 a", "1"}, {sixteen, "~15 a|b;-16 a;+17 a", "15,16"},
	} {
		for _, both := range [][2]string{{c.p, c.q}, {c.q, c.p}} {
			p, q, what := patch(both[0]), patch(both[1]), " of "+both[0]+" and "+both[1]
			ids, ok := impl.ConflictsOf(p, q)
			expectList(t, "ConflictsOf"+what, ids, ok, numbers(c.ids), true)
			got, ok := impl.MergePatches(p, q)
			expectList(t, "MergePatches"+what, got, ok, nil, false)
			got, ok = impl.RebasePatch(p, q)
			expectList(t, "RebasePatch"+what, got, ok, nil, false)
		}
	}
}

// TestMergedEditsOneTooMany has patches that are in no conflict, so that they can be rebased.
func TestMergedEditsOneTooMany(t *testing.T) {
	for _, both := range [][2][]impl.Edit{{addAll(1, 16), addAll(17, 1)}, {addAll(1, 8), addAll(9, 9)}, {addAll(1, 16), addAll(2, 16)}, {addAll(1, 16), addAll(50, 16)}} {
		p, q := both[0], both[1]
		for range 2 {
			got, ok := impl.MergePatches(p, q)
			expectList(t, fmt.Sprintf("MergePatches of %v and %v", p, q), got, ok, nil, false)
			rest, ok := impl.RebasePatch(p, q)
			isNew := slices.DeleteFunc(slices.Clone(q), func(e impl.Edit) bool { return slices.Contains(p, e) })
			expectList(t, fmt.Sprintf("RebasePatch of %v and %v", p, q), rest, ok, isNew, true)
			p, q = q, p
		}
	}
}
