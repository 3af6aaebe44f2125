package tests

import (
	"fmt"
	"math/rand"
	"slices"
	"strings"
	"testing"

	"loop.example/g01095/impl"
)

// checkSentence checks that a text is taken for a sentence, or not, wherever one is needed.
func checkSentence(t *testing.T, text string, isSentence bool) {
	t.Helper()
	statutes := [][]impl.Article{{{Id: 1, Text: text}}, {{Id: 1, Text: "q"}, {Id: 99, Text: text}}}
	for _, s := range statutes {
		if impl.ValidStatute(s) != isSentence {
			t.Errorf("ValidStatute with %q is %v", text, !isSentence)
		}
	}
	edits := []impl.Edit{
		{Kind: impl.EditAdd, Id: 1, New: text}, {Kind: impl.EditDrop, Id: 1, Old: text},
		{Kind: impl.EditChange, Id: 1, Old: text, New: "q"}, {Kind: impl.EditChange, Id: 1, Old: "q", New: text},
	}
	for _, e := range edits {
		if impl.ValidPatch([]impl.Edit{e}) != isSentence {
			t.Errorf("ValidPatch of %+v is %v", e, !isSentence)
		}
	}
}

func TestSentences(t *testing.T) {
	for _, text := range sentences() {
		checkSentence(t, text, true)
	}
	for _, text := range notSentences() {
		checkSentence(t, text, false)
	}
	for _, text := range words("az09 |A", 4) {
		checkSentence(t, text, sentence.MatchString(text))
	}
	for char := range 256 {
		for _, text := range []string{"", "a", "aa"} {
			for place := range len(text) + 1 {
				text := text[:place] + string([]byte{byte(char)}) + text[place:]
				if text != "q" {
					checkSentence(t, text, sentence.MatchString(text))
				}
			}
		}
	}
	for length := range impl.MaxText + 9 {
		checkSentence(t, strings.Repeat("a", length), length >= 1 && length <= impl.MaxText)
		checkSentence(t, strings.Repeat(" ", length)+"a", length == 0)
		checkSentence(t, "a"+strings.Repeat(" ", length), length == 0)
		checkSentence(t, "a"+strings.Repeat(" ", length)+"a", length+2 <= impl.MaxText)
	}
}

func TestValidStatute(t *testing.T) {
	for _, text := range []string{"", "1 a", "99 a", "1 a;99 a", "1 a;2 a;3 a", "1 a;2 b;3 c;4 d;5 e;6 f;7 g;8 h", "92 a;93 a;94 a;95 a;96 a;97 a;98 a;99 a", "7 " + strings.Repeat("a", impl.MaxText)} {
		if !impl.ValidStatute(statute(text)) {
			t.Errorf("ValidStatute of %q is false", text)
		}
	}
	for name, s := range invalidStatutes() {
		if impl.ValidStatute(s) {
			t.Errorf("ValidStatute is true for %s: %v", name, s)
		}
	}
}

func TestValidPatch(t *testing.T) {
	for _, text := range []string{"", "+1 a", "-1 a", "~1 a|b", "+99 a", "-99 a", "~99 a|b", "+1 a;-2 a;~99 a|b", "~1 a|b;~2 a|b", "~1 a|a a", brief(patchText(addAll(1, impl.MaxEdits))), brief(patchText(addAll(84, impl.MaxEdits)))} {
		if !impl.ValidPatch(patch(text)) {
			t.Errorf("ValidPatch of %q is false", text)
		}
	}
	for name, p := range invalidPatches() {
		if impl.ValidPatch(p) {
			t.Errorf("ValidPatch is true for %s: %v", name, p)
		}
	}
}

// TestValidPatchOfAllKinds tries all kinds, and those near them, with all fields.
func TestValidPatchOfAllKinds(t *testing.T) {
	texts := []string{"", "a", "b", " ", "A"}
	for kind := int64(-1); kind <= 4; kind++ {
		for _, old := range texts {
			for _, changed := range texts {
				isOld, isNew := sentence.MatchString(old), sentence.MatchString(changed)
				want := kind == impl.EditAdd && old == "" && isNew || kind == impl.EditDrop && isOld && changed == "" || kind == impl.EditChange && isOld && isNew && old != changed
				if e := (impl.Edit{Kind: kind, Id: 1, Old: old, New: changed}); impl.ValidPatch([]impl.Edit{e}) != want {
					t.Errorf("ValidPatch of %+v is %v", e, !want)
				}
			}
		}
	}
}

func checkApply(t *testing.T, s []impl.Article, p []impl.Edit) {
	t.Helper()
	want, wantOK := applyIn(s, p)
	after, ok := impl.ApplyPatch(s, p)
	expectList(t, fmt.Sprintf("ApplyPatch of %v and %q", s, patchText(p)), after, ok, want, wantOK)
	if !ok {
		return
	}
	back, ok := impl.InversePatch(p)
	before, isBack := impl.ApplyPatch(after, back)
	expectList(t, fmt.Sprintf("ApplyPatch of %v and the inverse of %q", after, patchText(p)), before, ok && isBack, s, true)
}

func TestApplyPatch(t *testing.T) {
	ids := []int64{1, 99}
	for _, s := range smallStatutes(ids, "a", "b", "a b") {
		for _, p := range smallPatches(ids, "a", "b", "a b") {
			checkApply(t, s, p)
		}
	}
	random := rand.New(rand.NewSource(100))
	applied, full := 0, 0
	for range 10000 {
		s := randomStatute(random)
		p := randomPatch(random, s)
		checkApply(t, s, p)
		if after, ok := applyIn(s, p); ok && len(p) > 2 {
			applied++
			if len(after) == impl.MaxArticles {
				full++
			}
		}
	}
	if applied < 1500 || full < 100 {
		t.Errorf("only %d patches with some edits can be applied, and %d fill the statute", applied, full)
	}
}

func TestApplyPatchCases(t *testing.T) {
	eight := "11 a;12 b;13 c;14 d;15 e;16 f;17 g;18 h"
	dropEight := "-11 a;-12 b;-13 c;-14 d;-15 e;-16 f;-17 g;-18 h"
	addEight := "+1 a;+2 a;+3 a;+4 a;+5 a;+6 a;+7 a;+8 a"
	for _, c := range []struct{ s, p, want string }{
		{"", "", ""}, {"1 a", "", "1 a"}, {"", "+1 a", "1 a"}, {"1 a", "-1 a", ""}, {"1 a", "~1 a|b", "1 b"},
		{"2 b", "+1 a;+3 c", "1 a;2 b;3 c"}, {"1 a;2 b;3 c", "-2 b", "1 a;3 c"}, {"1 a;2 b;3 c", "-1 a;~2 b|a;+4 d", "2 a;3 c;4 d"},
		{eight, dropEight, ""}, {"", addEight, "1 a;2 a;3 a;4 a;5 a;6 a;7 a;8 a"}, {eight, addEight + ";" + dropEight, "1 a;2 a;3 a;4 a;5 a;6 a;7 a;8 a"},
		{eight, "+1 a;-18 h", "1 a;11 a;12 b;13 c;14 d;15 e;16 f;17 g"}, {eight, "-11 a;+99 z", "12 b;13 c;14 d;15 e;16 f;17 g;18 h;99 z"},
		{eight, "~11 a|b", "11 b;12 b;13 c;14 d;15 e;16 f;17 g;18 h"},
	} {
		after, ok := impl.ApplyPatch(statute(c.s), patch(c.p))
		expectList(t, "ApplyPatch of "+c.s+" and "+c.p, after, ok, statute(c.want), true)
	}
	for _, c := range [][2]string{
		{"1 a", "+1 a"}, {"1 a", "+1 b"}, {"", "-1 a"}, {"", "~1 a|b"}, {"1 a", "-1 b"}, {"1 a", "~1 b|a"}, {"1 a", "~1 b|c"}, {"1 a", "-2 a"}, {"2 a", "-1 a"}, {"2 a", "~1 a|b"},
		{"1 a;3 c", "-2 b"}, {"1 a;3 c", "-1 a;+2 b;-3 b"}, {"1 a", "+1 a;+2 b"}, {"1 a a", "-1 a"}, {"1 a", "-1 aa"},
		{eight, "+1 a"}, {eight, "+99 a"}, {eight, "-11 a;+1 a;+2 a"}, {"9 a", addEight}, {"", addEight + ";+9 a"}, {eight, addEight}, {eight, "~11 a|b;+19 a"},
		{"", brief(patchText(addAll(1, impl.MaxEdits)))},
	} {
		after, ok := impl.ApplyPatch(statute(c[0]), patch(c[1]))
		expectList(t, "ApplyPatch of "+c[0]+" and "+c[1], after, ok, nil, false)
	}
}

func TestInversePatch(t *testing.T) {
	random := rand.New(rand.NewSource(101))
	patches := smallPatches([]int64{1, 5, 99}, "a", "b")
	for range 2000 {
		patches = append(patches, randomPatch(random, randomStatute(random)))
	}
	for _, p := range patches {
		back, ok := impl.InversePatch(p)
		expectList(t, fmt.Sprintf("InversePatch of %q", patchText(p)), back, ok, inverseIn(p), true)
	}
}

// checkDiff checks that a patch leads from a to b, and that it has one edit for each Id whose articles differ, without which no
// patch could lead there.
func checkDiff(t *testing.T, a, b []impl.Article) {
	t.Helper()
	what := fmt.Sprintf("DiffStatutes of %v and %v", a, b)
	p, ok := impl.DiffStatutes(a, b)
	after, isApplied := applyIn(a, p)
	expectList(t, what+" applied", after, ok && isApplied && impl.ValidPatch(p), b, true)
	differ := map[int64]bool{}
	for _, article := range a {
		differ[article.Id] = differ[article.Id] || !slices.Contains(b, article)
	}
	for _, article := range b {
		differ[article.Id] = differ[article.Id] || !slices.Contains(a, article)
	}
	count := 0
	for id, isDifferent := range differ {
		if isDifferent {
			count++
		}
		if _, has := editAt(p, id); has != isDifferent {
			t.Errorf("%s: %q has an edit with the Id %d, or lacks one", what, patchText(p), id)
		}
	}
	expect(t, what+" edits", len(p), ok, count, true)
}

func TestDiffStatutes(t *testing.T) {
	for _, a := range smallStatutes([]int64{1, 50, 99}, "a", "b") {
		for _, b := range smallStatutes([]int64{1, 50, 99}, "a", "b") {
			checkDiff(t, a, b)
		}
	}
	random := rand.New(rand.NewSource(102))
	for range 5000 {
		checkDiff(t, randomStatute(random), randomStatute(random))
	}
	checkDiff(t, statute("1 a;2 a;3 a;4 a;5 a;6 a;7 a;8 a"), statute("9 a;10 a;11 a;12 a;13 a;14 a;15 a;16 a"))
	checkDiff(t, statute("2 a;4 a;6 a;8 a;10 a;12 a;14 a;16 a"), statute("1 a;3 a;5 a;7 a;9 a;11 a;13 a;15 a"))
}

// TestNoSmallerPatch tries all patches with fewer edits than the difference of two statutes.
func TestNoSmallerPatch(t *testing.T) {
	ids := []int64{3, 4}
	for _, a := range smallStatutes(ids, "a", "b") {
		for _, b := range smallStatutes(ids, "a", "b") {
			diff, _ := impl.DiffStatutes(a, b)
			for _, p := range smallPatches(ids, "a", "b") {
				if after, ok := applyIn(a, p); ok && slices.Equal(after, b) && len(p) < len(diff) {
					t.Errorf("%q leads from %v to %v, too, which is fewer than %q", patchText(p), a, b, patchText(diff))
				}
			}
		}
	}
}

func TestInvalidStatutesAreRefused(t *testing.T) {
	for name, s := range invalidStatutes() {
		for _, p := range []string{"", "+5 a", "-1 a", "-1 a;-2 a"} {
			after, ok := impl.ApplyPatch(s, patch(p))
			expectList(t, "ApplyPatch of "+name, after, ok, nil, false)
		}
		for _, other := range [][]impl.Article{nil, s, {{Id: 1, Text: "a"}}} {
			p, ok := impl.DiffStatutes(s, other)
			expectList(t, "DiffStatutes of "+name, p, ok, nil, false)
			p, ok = impl.DiffStatutes(other, s)
			expectList(t, "DiffStatutes to "+name, p, ok, nil, false)
		}
		text, ok := impl.StatuteText(s)
		expect(t, "StatuteText of "+name, text, ok, "", false)
		checkRefused(t, " of "+name, s, nil)
		checkRefused(t, " of "+name, s, acts("0 1000 -1 a"))
	}
}

// checkRefused checks that no function of a base statute and acts takes these.
func checkRefused(t *testing.T, what string, base []impl.Article, list []impl.Act) {
	t.Helper()
	text, ok := impl.TextOn(base, list, 0)
	expectList(t, "TextOn"+what, text, ok, nil, false)
	days, ok := impl.ChangeDays(base, list)
	expectList(t, "ChangeDays"+what, days, ok, nil, false)
	broken, ok := impl.BrokenDays(base, list)
	expectLists(t, "BrokenDays"+what, broken, ok, nil, false)
	source, ok := impl.SourceOf(base, list, 0, 1)
	expect(t, "SourceOf"+what, source, ok, 0, false)
	ended, ok := impl.EndAct(base, list, 0, 3)
	expectActs(t, "EndAct"+what, ended, ok, nil, false)
}

func TestInvalidPatchesAreRefused(t *testing.T) {
	runs := map[string]func(p []impl.Edit) ([]impl.Edit, bool){"InversePatch": impl.InversePatch}
	for what, both := range map[string]func(p, q []impl.Edit) ([]impl.Edit, bool){"ComposePatches": impl.ComposePatches, "MergePatches": impl.MergePatches, "RebasePatch": impl.RebasePatch} {
		runs[what+" with itself"] = func(p []impl.Edit) ([]impl.Edit, bool) { return both(p, p) }
		runs[what+" before nothing"] = func(p []impl.Edit) ([]impl.Edit, bool) { return both(p, nil) }
		runs[what+" behind nothing"] = func(p []impl.Edit) ([]impl.Edit, bool) { return both(nil, p) }
		runs[what+" before another one"] = func(p []impl.Edit) ([]impl.Edit, bool) { return both(p, patch("+50 a")) }
		runs[what+" behind another one"] = func(p []impl.Edit) ([]impl.Edit, bool) { return both(patch("+50 a"), p) }
	}
	for name, p := range invalidPatches() {
		for what, run := range runs {
			q, ok := run(p)
			expectList(t, what+" of "+name, q, ok, nil, false)
		}
		for _, s := range []string{"", "1 a", "2 b"} {
			after, ok := impl.ApplyPatch(statute(s), p)
			expectList(t, "ApplyPatch of "+name, after, ok, nil, false)
		}
		for _, both := range [][2][]impl.Edit{{p, p}, {p, nil}, {nil, p}} {
			ids, ok := impl.ConflictsOf(both[0], both[1])
			expectList(t, "ConflictsOf "+name, ids, ok, nil, false)
		}
		text, ok := impl.PatchText(p)
		expect(t, "PatchText of "+name, text, ok, "", false)
	}
}
