package tests

import (
	"fmt"
	"math/rand"
	"slices"
	"testing"

	"loop.example/g01095/impl"
)

func checkDeed(t *testing.T, what string, d impl.Deed, want bool) {
	t.Helper()
	if got := impl.ValidDeed(d); got != want {
		t.Errorf("%s: ValidDeed of %+v is %v", what, d, got)
	}
}

func TestValidDeed(t *testing.T) {
	for _, text := range []string{
		"trust 0", "trust 11", "trust 0 1", "trust 0 11", "trust 11 0,1,2,3", "trust 5 11,10,9,8", "vote 0 park none", "vote 11 park yes", "vote 0 a no", "vote 0 abcdefghij blank", "next",
		"propose 0 park 1 1 2 +1 a", "propose 11 zzzzzzzzzz 999 999 1000 -99 a", "propose 0 park 1 2 9 " + brief(patchText(addAll(84, impl.MaxEdits))),
	} {
		checkDeed(t, text, deed(text), true)
	}
	for _, days := range proposedDays() {
		text := fmt.Sprint("propose 0 park ", days[0], " ", days[1], " ", days[2], " +1 a")
		checkDeed(t, text, deed(text), true)
	}
	checkDeed(t, "empty lists", impl.Deed{Kind: impl.DeedNext, Trust: []int64{}, Patch: []impl.Edit{}}, true)
	for name, d := range invalidDeeds() {
		checkDeed(t, name, d, false)
	}
}

// TestValidDeedOfAllFields tries all kinds with all combinations of fields.
func TestValidDeedOfAllFields(t *testing.T) {
	valid := 0
	for kind := int64(0); kind <= 5; kind++ {
		for _, member := range []int64{-1, 0, 1, 11, 12} {
			for _, trust := range []string{"", "1", "2,3,4,5", "12", "1,1"} {
				for _, title := range []string{"", "park", "Park"} {
					for vote := int64(-1); vote <= 4; vote++ {
						for _, edits := range []string{"", "+1 a", "+0 a"} {
							for _, days := range [][3]int64{{0, 0, 0}, {1, 1, 2}, {1, 0, 2}, {0, 1, 2}, {1, 0, 0}, {0, 1, 0}, {0, 0, 1}} {
								d := impl.Deed{Kind: kind, Member: member, Trust: numbers(trust), Title: title, Vote: vote, Patch: patch(edits), Closes: days[0], From: days[1], Until: days[2]}
								checkDeed(t, "a deed", d, isDeedIn(d))
								if isDeedIn(d) {
									valid++
								}
							}
						}
					}
				}
			}
		}
	}
	if valid < 20 {
		t.Errorf("only %d deeds are valid", valid)
	}
}

// expectDone checks the assembly after a deed.
func expectDone(t *testing.T, a impl.Assembly, d impl.Deed, want impl.Assembly, wantOK bool) {
	t.Helper()
	after, ok := impl.DoDeed(a, d)
	what := fmt.Sprintf("DoDeed %+v in %+v", d, a)
	expectAssembly(t, what, after, ok, want, wantOK)
	if ok && (!impl.ValidAssembly(after) || !impl.SameAssembly(after, want)) {
		t.Errorf("%s: %+v is not valid", what, after)
	}
	// One deed in a list does the same, or nothing.
	if !impl.ValidAssembly(a) || !impl.ValidDeed(d) {
		after, done, ok := impl.DoDeeds(a, []impl.Deed{d})
		expectAssembly(t, "DoDeeds instead of "+what, after, ok, impl.Assembly{}, false)
		expect(t, "DoDeeds instead of "+what, done, ok, 0, false)
		return
	}
	count := int64(1)
	if !wantOK {
		want, count = a, 0
	}
	after, done, ok := impl.DoDeeds(a, []impl.Deed{d})
	expectAssembly(t, "DoDeeds instead of "+what, after, ok, want, true)
	expect(t, "DoDeeds instead of "+what, done, ok, count, true)
}

func TestDeeds(t *testing.T) {
	random := rand.New(rand.NewSource(320))
	done, not := map[int64]int{}, map[int64]int{}
	for _, a := range randomAssemblies(321, 400, 40) {
		for range 10 {
			d := randomDeed(random, a)
			checkDeed(t, "a random deed", d, true)
			want, ok := doneIn(a, d)
			expectDone(t, a, d, want, ok)
			if !ok {
				not[d.Kind]++
				continue
			}
			done[d.Kind]++
			a = want
		}
	}
	for kind := int64(impl.DeedTrust); kind <= impl.DeedNext; kind++ {
		if done[kind] < 100 || not[kind] < 10 {
			t.Errorf("only %d deeds of the kind %d can be done, and %d cannot", done[kind], kind, not[kind])
		}
	}
}

func TestTrustDeeds(t *testing.T) {
	a := changed(assembly("-1,2 - -0", "park yn. 3 4 9 +1 a", "tax yyy 2 3 9 +1 a"), func(a *impl.Assembly) { a.Day, a.Motions[1].Result = 2, impl.MotionBroken })
	for _, text := range []string{"trust 0", "trust 0 1", "trust 0 2,1", "trust 1 0,2", "trust 2", "trust 2 1,0"} {
		d := deed(text)
		expectDone(t, a, d, changed(a, func(a *impl.Assembly) { a.Trust[d.Member] = d.Trust }), true)
	}
	for _, text := range []string{"trust 3", "trust 3 0", "trust 11", "trust 0 3", "trust 0 1,2,3", "trust 0 1,11", "trust 2 3"} {
		expectDone(t, a, deed(text), impl.Assembly{}, false)
	}
	all := assembly("- - - - - - - - - - - -")
	for _, text := range []string{"trust 11 0,1,2,3", "trust 0 11,10,9,8"} {
		d := deed(text)
		expectDone(t, all, d, changed(all, func(a *impl.Assembly) { a.Trust[d.Member] = d.Trust }), true)
	}
	expectDone(t, assembly("-"), deed("trust 0"), assembly("-"), true)
	expectDone(t, assembly("-"), deed("trust 0 1"), impl.Assembly{}, false)
}

func TestVoteDeeds(t *testing.T) {
	a := changed(assembly("-1,2 - -0", "park yn. 3 4 9 +1 a", "tax yyy 2 3 9 +1 a", "dogs ... 9 9 10 +1 a"), func(a *impl.Assembly) { a.Day = 2 })
	for member := range 3 {
		for vote, word := range []string{"none", "yes", "no", "blank"} {
			for k, title := range []string{"park", "tax", "dogs"} {
				d := deed(fmt.Sprint("vote ", member, " ", title, " ", word))
				for result := int64(impl.MotionAdopted); result <= impl.MotionBroken; result++ {
					a.Motions[1].Result = result
					if title == "tax" {
						expectDone(t, a, d, impl.Assembly{}, false)
						continue
					}
					expectDone(t, a, d, changed(a, func(a *impl.Assembly) { a.Motions[k].Votes[member] = int64(vote) }), true)
				}
			}
		}
	}
	for _, text := range []string{"vote 3 park yes", "vote 11 park none", "vote 0 parks yes", "vote 0 a yes", "vote 0 par none"} {
		expectDone(t, a, deed(text), impl.Assembly{}, false)
	}
	expectDone(t, assembly("-"), deed("vote 0 park yes"), impl.Assembly{}, false)
}

func TestProposeDeeds(t *testing.T) {
	a := changed(assembly("-1,2 - -0", "park yn. 3 4 9 +1 a", "tax yyy 2 3 9 +1 a"), func(a *impl.Assembly) { a.Day, a.Motions[1].Result = 2, impl.MotionBroken })
	for _, text := range []string{"propose 0 parks 3 3 4 +1 a", "propose 1 a 3 9 1000 -1 a;~7 x|y", "propose 2 dogs 999 999 1000 +1 a"} {
		d := deed(text)
		expectDone(t, a, d, changed(a, func(a *impl.Assembly) {
			m := motion(fmt.Sprint(d.Title, " ... ", d.Closes, " ", d.From, " ", d.Until, " "))
			m.Author, m.Patch = d.Member, d.Patch
			a.Motions = append(a.Motions, m)
		}), true)
	}
	for _, text := range []string{
		"propose 3 dogs 3 3 4 +1 a", "propose 11 dogs 3 3 4 +1 a", "propose 0 park 3 3 4 +1 a", "propose 0 park 3 4 9 +1 a", "propose 0 tax 3 3 4 +1 a", "propose 0 dogs 2 2 3 +1 a", "propose 0 dogs 2 9 10 +1 a", "propose 0 dogs 1 3 4 +1 a", "propose 0 dogs 1 1 2 +1 a",
	} {
		expectDone(t, a, deed(text), impl.Assembly{}, false)
	}
	a.Motions = nil
	for k, title := range titles() {
		d := deed("propose 1 " + title + " 5 6 7 +1 a")
		if k == impl.MaxMotions {
			expectDone(t, a, d, impl.Assembly{}, false)
			// Decided motions count, too.
			a.Day = 6
			for k := range a.Motions {
				a.Motions[k].Result = impl.MotionVoid
			}
			expectDone(t, a, deed("propose 1 "+title+" 7 7 8 +1 a"), impl.Assembly{}, false)
			break
		}
		after := changed(a, func(a *impl.Assembly) {
			a.Motions = append(a.Motions, motion(title+" ... 5 6 7 +1 a"))
			a.Motions[k].Author = 1
		})
		expectDone(t, a, d, after, true)
		a = after
	}
	last := changed(assembly("-"), func(a *impl.Assembly) { a.Day = impl.MaxDay })
	expectDone(t, last, deed("propose 0 park 999 999 1000 +1 a"), impl.Assembly{}, false)
	last.Day--
	expectDone(t, last, deed("propose 0 park 999 999 1000 +1 a"), changed(last, func(a *impl.Assembly) { a.Motions = append(a.Motions, motion("park . 999 999 1000 +1 a")) }), true)
}

// orderCase is a day on which several motions are decided.
type orderCase struct {
	name, base string
	acts       []impl.Act
	motions    []string
	results    []int64
	want       []impl.Act
}

func orderCases() []orderCase {
	const open, adopted, rejected, void, broken = impl.MotionOpen, impl.MotionAdopted, impl.MotionRejected, impl.MotionVoid, impl.MotionBroken
	seven := slices.Repeat(acts("1 2 "), impl.MaxActs-1)
	return []orderCase{
		{"the first one enters what the second one needs", "", nil, []string{"b yy 1 3 9 +1 a", "a yy 1 3 9 ~1 a|b"}, []int64{adopted, adopted}, acts("3 9 +1 a", "3 9 ~1 a|b")},
		{"the second one enters what the first one needs", "", nil, []string{"a yy 1 3 9 ~1 a|b", "b yy 1 3 9 +1 a"}, []int64{broken, adopted}, acts("3 9 +1 a")},
		{"the first one breaks what the second one needs", "1 a", nil, []string{"a yy 1 3 9 -1 a", "b yy 1 3 9 ~1 a|b"}, []int64{adopted, broken}, acts("3 9 -1 a")},
		{"the second one takes what the first one leaves", "1 a", nil, []string{"a yy 1 3 9 ~1 a|b", "b yy 1 3 9 -1 b"}, []int64{adopted, adopted}, acts("3 9 ~1 a|b", "3 9 -1 b")},
		{"both do the same", "1 a", nil, []string{"b yy 1 3 9 -1 a", "a yy 1 3 9 -1 a"}, []int64{adopted, broken}, acts("3 9 -1 a")},
		{"both do the same one after the other", "1 a", nil, []string{"b yy 1 6 9 -1 a", "a yy 1 3 6 -1 a"}, []int64{adopted, adopted}, acts("3 6 -1 a", "6 9 -1 a")},
		{"the second one begins first and breaks a day of the first one", "1 a", nil, []string{"b yy 1 6 9 -1 a", "a yy 1 3 7 -1 a"}, []int64{adopted, broken}, acts("6 9 -1 a")},
		{"the second one begins before what it needs", "", nil, []string{"a yy 1 4 9 +1 a", "b yy 1 3 9 ~1 a|b"}, []int64{adopted, broken}, acts("4 9 +1 a")},
		{"a rejected one enters nothing", "", nil, []string{"b nn 1 3 9 +1 a", "a yy 1 3 9 ~1 a|b", "c yy 1 3 9 +1 a"}, []int64{rejected, broken, adopted}, acts("3 9 +1 a")},
		{"a void one breaks nothing", "1 a", nil, []string{"b .. 1 3 9 -1 a", "a yy 1 3 9 ~1 a|b"}, []int64{void, adopted}, acts("3 9 ~1 a|b")},
		{"one that is still open enters nothing", "", nil, []string{"b yy 2 3 9 +1 a", "a yy 1 3 9 ~1 a|b"}, []int64{open, broken}, nil},
		{"the last place", "", seven, []string{"b yy 1 3 9 +1 a", "a yy 1 3 9 +2 a"}, []int64{adopted, broken}, append(slices.Clone(seven), acts("3 9 +1 a")...)},
		{"the last place after a rejected one", "", seven, []string{"b nn 1 3 9 +1 a", "a yy 1 3 9 +2 a", "c yy 1 3 9 +3 a"}, []int64{rejected, adopted, broken}, append(slices.Clone(seven), acts("3 9 +2 a")...)},
		{"all of MaxMotions", "", nil, []string{"f yy 1 6 9 +1 a", "e yy 1 5 9 +2 a", "d yy 1 6 9 +3 a", "c yy 1 1 9 +4 a", "b yy 1 5 9 +5 a", "a yy 1 6 9 ~2 a|b"}, slices.Repeat([]int64{adopted}, 6), acts("1 9 +4 a", "5 9 +2 a", "5 9 +5 a", "6 9 +1 a", "6 9 +3 a", "6 9 ~2 a|b")},
	}
}

func TestOrderOfDecisions(t *testing.T) {
	for _, c := range orderCases() {
		a := under(assembly("- -", c.motions...), c.base, c.acts)
		expectDone(t, a, deed("next"), changed(a, func(a *impl.Assembly) {
			a.Day, a.Acts = 1, c.want
			for k, result := range c.results {
				a.Motions[k].Result = result
			}
		}), true)
		// What a motion alone would be is another question.
		for _, m := range a.Motions {
			checkVerdict(t, a, m)
		}
	}
}

func TestNextDeeds(t *testing.T) {
	a := assembly("- -0", "park y. 3 4 9 +1 a", "tax n. 5 5 9 +2 a")
	for day := range int64(impl.MaxDay) {
		after := changed(a, func(a *impl.Assembly) {
			a.Day = day + 1
			if a.Day == 3 {
				a.Motions[0].Result, a.Acts = impl.MotionAdopted, acts("4 9 +1 a")
			}
			if a.Day == 5 {
				a.Motions[1].Result = impl.MotionRejected
			}
		})
		expectDone(t, a, deed("next"), after, true)
		a = after
	}
	expectDone(t, a, deed("next"), impl.Assembly{}, false)
	// Votes and trust on the day before decide, also on the last day.
	last := changed(assembly("- -0", "park y. 999 999 1000 +1 a"), func(a *impl.Assembly) { a.Day = impl.MaxDay - 1 })
	expectDone(t, last, deed("next"), changed(last, func(a *impl.Assembly) {
		a.Day, a.Motions[0].Result, a.Acts = impl.MaxDay, impl.MotionAdopted, acts("999 1000 +1 a")
	}), true)
}

func TestDeedsRefuse(t *testing.T) {
	a := assembly("- - -", "park y.n 1 2 9 +1 a")
	for name, d := range invalidDeeds() {
		after, ok := impl.DoDeed(a, d)
		expectAssembly(t, "DoDeed "+name, after, ok, impl.Assembly{}, false)
		for _, list := range [][]impl.Deed{{d}, {d, deed("next")}, {deed("next"), d}, {deed("vote 11 park yes"), d}} {
			after, done, ok := impl.DoDeeds(a, list)
			expectAssembly(t, "DoDeeds with "+name, after, ok, impl.Assembly{}, false)
			expect(t, "DoDeeds with "+name, done, ok, 0, false)
		}
	}
	for name, a := range invalidAssemblies() {
		for _, text := range []string{"trust 0", "vote 0 park yes", "propose 0 dogs 7 8 9 +9 a", "next"} {
			expectDone(t, a, deed(text), impl.Assembly{}, false)
		}
		after, done, ok := impl.DoDeeds(a, nil)
		expectAssembly(t, "DoDeeds in "+name, after, ok, impl.Assembly{}, false)
		expect(t, "DoDeeds in "+name, done, ok, 0, false)
	}
}

func TestDoDeeds(t *testing.T) {
	random := rand.New(rand.NewSource(322))
	stopped, whole := 0, 0
	for _, a := range randomAssemblies(323, 150, 20) {
		var list []impl.Deed
		for now := a; len(list) < impl.MaxDeeds; {
			d := randomDeed(random, now)
			after, ok := doneIn(now, d)
			if ok {
				now = after
			}
			if ok || random.Intn(8) == 0 {
				list = append(list, d)
			}
		}
		for _, count := range []int{0, 1, 2, 5, 20, impl.MaxDeeds} {
			want, done := doneAll(a, list[:count])
			after, got, ok := impl.DoDeeds(a, list[:count])
			what := fmt.Sprintf("DoDeeds %+v in %+v", list[:count], a)
			expectAssembly(t, what, after, ok, want, true)
			expect(t, what, got, ok, done, true)
			if done < int64(count) {
				stopped++
			} else if count > 5 {
				whole++
			}
		}
	}
	if stopped < 100 || whole < 20 {
		t.Errorf("only %d lists stop, and %d do not", stopped, whole)
	}
}

func TestDoDeedsCases(t *testing.T) {
	a := assembly("- - -")
	days := func(count int64) impl.Assembly { return changed(a, func(a *impl.Assembly) { a.Day = count }) }
	next := deed("next")
	far := changed(a, func(a *impl.Assembly) { a.Day = impl.MaxDay - 2 })
	for _, c := range []struct {
		name  string
		a     impl.Assembly
		deeds []impl.Deed
		want  impl.Assembly
		done  int64
		ok    bool
	}{
		{"no deeds", a, nil, a, 0, true},
		{"an empty list", a, []impl.Deed{}, a, 0, true},
		{"MaxDeeds", a, slices.Repeat([]impl.Deed{next}, impl.MaxDeeds), days(impl.MaxDeeds), impl.MaxDeeds, true},
		{"MaxDeeds and one more", a, slices.Repeat([]impl.Deed{next}, impl.MaxDeeds+1), impl.Assembly{}, 0, false},
		{"far more than MaxDeeds", a, slices.Repeat([]impl.Deed{next}, 1000), impl.Assembly{}, 0, false},
		{"MaxDeeds and one more, of which the first one stops", a, append(deeds("vote 0 park yes"), slices.Repeat([]impl.Deed{next}, impl.MaxDeeds)...), impl.Assembly{}, 0, false},
		{"one that stops at once", a, deeds("vote 0 park yes", "next", "next"), a, 0, true},
		{"one that stops in the middle", a, deeds("next", "next", "trust 3", "next"), days(2), 2, true},
		{"one that stops at the end", a, deeds("next", "next", "trust 0 3"), days(2), 2, true},
		{"the last day", far, slices.Repeat([]impl.Deed{next}, 5), days(impl.MaxDay), 2, true},
		{"an invalid deed at the end", a, append(deeds("next", "next"), impl.Deed{}), impl.Assembly{}, 0, false},
		{"an invalid deed behind one that stops", a, append(deeds("next", "trust 3"), impl.Deed{Kind: impl.DeedNext, Member: 1}), impl.Assembly{}, 0, false},
	} {
		after, done, ok := impl.DoDeeds(c.a, c.deeds)
		expectAssembly(t, c.name, after, ok, c.want, c.ok)
		expect(t, c.name, done, ok, c.done, c.ok)
	}
}

func TestDocumentExample(t *testing.T) {
	a, _ := impl.NewAssembly(3, impl.RuleBreadth, nil)
	a, done, ok := impl.DoDeeds(a, deeds("trust 1 0", "propose 0 park 1 2 9 +1 dogs are led", "vote 0 park yes", "vote 2 park no"))
	expect(t, "DoDeeds", done, ok, 4, true)
	count, ok := impl.CountOf(a, "park")
	expectList(t, "CountOf", count, ok, []int64{1, 2, 0, 0}, true)
	verdict, ok := impl.VerdictOf(a, "park")
	expect(t, "VerdictOf", verdict, ok, impl.MotionAdopted, true)
	a, _ = impl.DoDeed(a, deed("vote 0 park none"))
	verdict, ok = impl.VerdictOf(a, "park")
	expect(t, "VerdictOf without the vote", verdict, ok, impl.MotionVoid, true)
}

// TestTextToday follows the statute from day to day: an act has no effect before its From, nor from its Until on.
func TestTextToday(t *testing.T) {
	a := under(assembly("-", "park y 2 4 7 ~1 a|b;+3 c"), "1 a", acts("1 9 +2 z"))
	for day := range int64(12) {
		want := "1 a"
		switch {
		case day >= 4 && day < 7:
			want = "1 b;2 z;3 c"
		case day >= 1 && day < 9:
			want = "1 a;2 z"
		}
		text, ok := impl.TextToday(a)
		expectList(t, fmt.Sprint("TextToday on ", day), text, ok, statute(want), true)
		a, _ = impl.DoDeed(a, deed("next"))
	}
	for _, a := range randomAssemblies(324, 300, 0) {
		text, ok := impl.TextToday(a)
		expectList(t, fmt.Sprintf("TextToday of %+v", a), text, ok, textIn(a.Base, a.Acts, a.Day).text, true)
	}
}

// TestActsAreThoseOfAdoptedMotions does deeds from a new assembly on.
func TestActsAreThoseOfAdoptedMotions(t *testing.T) {
	random := rand.New(rand.NewSource(325))
	entered := 0
	for range 150 {
		a, ok := impl.NewAssembly(1+random.Int63n(4), random.Int63n(3), statute("1 a;2 b"))
		for range 60 {
			if after, done := impl.DoDeed(a, randomDeed(random, a)); done {
				a = after
			}
		}
		expectActs(t, fmt.Sprintf("the Acts of %+v", a), a.Acts, ok, actsOfAdopted(a), true)
		entered += len(a.Acts)
	}
	if entered < 150 {
		t.Errorf("only %d acts are entered", entered)
	}
}

// The result of a deed stays as it is whatever becomes of the arguments, and the other way round.
func TestDeedsOfChangedArguments(t *testing.T) {
	a := fullAssembly()
	a.Motions, a.Acts = a.Motions[:3], a.Acts[:4]
	d := impl.Deed{Kind: impl.DeedPropose, Title: "dogs", Patch: addAll(40, 3), Closes: 9, From: 10, Until: 20}
	want, _ := doneIn(a, d)
	after, ok := impl.DoDeed(a, d)
	text := assemblyText(want)
	d.Patch[0].Id, a.Trust[0][0], a.Motions[0].Votes[0], a.Motions[0].Patch[0].Id, a.Acts[0].Patch[0].Id, a.Base[0].Id = 7, 7, 7, 7, 7, 7
	if !ok || assemblyText(after) != text {
		t.Errorf("DoDeed: after the arguments have changed: %+v, %v, want %s", after, ok, text)
	}
}
