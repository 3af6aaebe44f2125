package tests

import (
	"fmt"
	"math/rand"
	"slices"
	"strings"
	"testing"

	"loop.example/g01095/impl"
)

// checkReplay checks what becomes of deeds in an assembly, which need not be possible.
func checkReplay(t *testing.T, a impl.Assembly, list []impl.Deed) {
	t.Helper()
	text := journalOf(list)
	what := fmt.Sprintf("of %q in %+v", text, a)
	want, done := doneAll(a, list)
	ok := isAssemblyIn(a) && done == int64(len(list)) && len(list) <= impl.MaxDeeds
	if !ok {
		want = impl.Assembly{}
	}
	after, isReplayed := impl.ReplayJournal(a, text)
	expectAssembly(t, "ReplayJournal "+what, after, isReplayed, want, ok)
	d := impl.Desk{Start: a, Journal: text}
	state, isState := impl.DeskState(d)
	expectAssembly(t, "DeskState "+what, state, isState, want, ok)
	if got := impl.ValidDesk(d); got != ok {
		t.Errorf("ValidDesk %s is %v", what, got)
	}
	desk, output, isDone := impl.DeskCommand(d, "deeds")
	if !ok {
		expectList(t, "DeskCommand "+what, output, isDone, nil, false)
		expectAssembly(t, "DeskCommand "+what, desk.Start, isDone, impl.Assembly{}, false)
		expect(t, "DeskCommand "+what, desk.Journal, isDone, "", false)
		return
	}
	expectList(t, "DeskCommand "+what, output, isDone, []string{fmt.Sprint(len(list))}, true)
	expectAssembly(t, "DeskCommand "+what, desk.Start, isDone, a, true)
	expect(t, "DeskCommand "+what, desk.Journal, isDone, text, true)
}

// checkAppend checks one more deed behind others, and reports whether it can be done.
func checkAppend(t *testing.T, a impl.Assembly, list []impl.Deed, d impl.Deed) bool {
	t.Helper()
	all := append(slices.Clone(list), d)
	_, done := doneAll(a, all)
	ok := isAssemblyIn(a) && len(all) <= impl.MaxDeeds && done == int64(len(all))
	want := ""
	if ok {
		want = journalOf(all)
	}
	text, isDone := impl.AppendDeed(a, journalOf(list), d)
	expect(t, fmt.Sprintf("AppendDeed %+v behind %q in %+v", d, journalOf(list), a), text, isDone, want, ok)
	return ok
}

// randomDeeds returns deeds of which nearly all, or all, can be done one after another.
func randomDeeds(random *rand.Rand, a impl.Assembly, count, errors int) []impl.Deed {
	var list []impl.Deed
	for len(list) < count {
		d := randomDeed(random, a)
		after, ok := doneIn(a, d)
		if ok {
			a = after
		}
		if ok || random.Intn(100) < errors {
			list = append(list, d)
		}
	}
	return list
}

func TestReplay(t *testing.T) {
	random := rand.New(rand.NewSource(420))
	replayed, not := 0, 0
	for _, a := range randomAssemblies(421, 150, 30) {
		for _, count := range []int{0, 1, 3, 10, impl.MaxDeeds, impl.MaxDeeds + 1} {
			list := randomDeeds(random, a, count, 10*random.Intn(2))
			checkReplay(t, a, list)
			if _, done := doneAll(a, list); done == int64(len(list)) {
				replayed++
			} else {
				not++
			}
		}
	}
	if replayed < 300 || not < 50 {
		t.Errorf("only %d journals are replayed, and %d are not", replayed, not)
	}
}

// A deed that cannot be done stops a replay wherever it stands.
func TestReplayRefuses(t *testing.T) {
	a := changed(assembly("- -0 -", "park y.n 3 4 9 +1 a", "tax y.n 1 4 9 +1 a"), func(a *impl.Assembly) { a.Day, a.Motions[1].Result = 1, impl.MotionVoid })
	good := deeds("trust 1", "vote 2 park yes", "propose 2 dogs 4 4 5 +2 b;", "next", "vote 1 dogs blank")
	checkReplay(t, a, good)
	for _, text := range []string{"trust 3", "trust 11", "trust 0 3", "vote 3 park yes", "vote 0 tax yes", "vote 0 cats yes", "propose 3 cats 5 5 6 +1 a;", "propose 0 park 5 5 6 +1 a;", "propose 0 tax 5 5 6 +1 a;", "propose 0 cats 1 5 6 +1 a;"} {
		for at := range len(good) + 1 {
			list := slices.Insert(slices.Clone(good), at, deed(text))
			if _, done := doneAll(a, list); done == int64(len(list)) {
				t.Errorf("%s can be done after %d deeds", text, at)
			}
			checkReplay(t, a, list)
			if checkAppend(t, a, good[:at], deed(text)) || checkAppend(t, a, list, deed("next")) {
				t.Errorf("a deed is appended although %s cannot be done after %d deeds", text, at)
			}
		}
	}
	last := changed(assembly("-"), func(a *impl.Assembly) { a.Day = impl.MaxDay - 1 })
	checkReplay(t, last, deeds("next"))
	checkReplay(t, last, deeds("next", "next"))
	checkReplay(t, last, deeds("next", "next", "trust 0"))
	checkAppend(t, last, deeds("next"), deed("next"))
}

func TestReplayOfNoJournal(t *testing.T) {
	a := assembly("- -0 -", "park y.n 3 4 9 +1 a")
	for _, text := range []string{"x", "\n", "1353 next", "1354 next\n", "1353 next\n\n", "1353 next\n3187 nex", journal("next", "next")[10:], journal(slices.Repeat([]string{"trust 0"}, impl.MaxDeeds+1)...), strings.Repeat("x", impl.MaxJournal+1), journal("next") + strings.Repeat(" ", impl.MaxJournal-10)} {
		after, ok := impl.ReplayJournal(a, text)
		expectAssembly(t, fmt.Sprintf("ReplayJournal of %q", text), after, ok, impl.Assembly{}, false)
		more, ok := impl.AppendDeed(a, text, deed("next"))
		expect(t, fmt.Sprintf("AppendDeed behind %q", text), more, ok, "", false)
		d := impl.Desk{Start: a, Journal: text}
		state, ok := impl.DeskState(d)
		expectAssembly(t, fmt.Sprintf("DeskState of %q", text), state, ok, impl.Assembly{}, false)
		desk, output, ok := impl.DeskCommand(d, "next")
		expectList(t, fmt.Sprintf("DeskCommand at %q", text), output, ok, nil, false)
		if impl.ValidDesk(d) || desk.Journal != "" || assemblyText(desk.Start) != assemblyText(impl.Assembly{}) {
			t.Errorf("the journal %q: got the desk %+v", text, desk)
		}
	}
	for _, a := range invalidAssemblies() {
		checkReplay(t, a, nil)
		checkReplay(t, a, deeds("next"))
		checkAppend(t, a, nil, deed("next"))
	}
}

func TestAppendDeed(t *testing.T) {
	random := rand.New(rand.NewSource(422))
	appended, not := 0, 0
	for _, a := range randomAssemblies(423, 100, 20) {
		list := randomDeeds(random, a, random.Intn(8), 0)
		for range 8 {
			d := randomDeed(random, a)
			if checkAppend(t, a, list, d) {
				list = append(list, d)
				appended++
			} else {
				not++
			}
		}
	}
	if appended < 300 || not < 30 {
		t.Errorf("only %d deeds are appended, and %d are not", appended, not)
	}
	a := assembly("- -0 -", "park y.n 3 4 9 +1 a")
	for _, d := range invalidDeeds() {
		checkAppend(t, a, nil, d)
		checkAppend(t, a, deeds("next"), d)
	}
	full := slices.Repeat(deeds("next"), impl.MaxDeeds)
	checkAppend(t, a, full[1:], deed("next"))
	checkAppend(t, a, full, deed("next"))
	checkAppend(t, a, full, deed("trust 0"))
	checkAppend(t, a, append(full, deed("next")), deed("next"))
}

// A deed that is appended and undone leaves the journal as it was.
func TestUndoTakesBackWhatIsAppended(t *testing.T) {
	random := rand.New(rand.NewSource(424))
	for _, a := range randomAssemblies(425, 60, 20) {
		list := randomDeeds(random, a, impl.MaxDeeds, 0)
		text := ""
		for i, d := range list {
			more, ok := impl.AppendDeed(a, text, d)
			expect(t, "AppendDeed", more, ok, journalOf(list[:i+1]), true)
			back, ok := impl.UndoLast(more)
			expect(t, "UndoLast of what is appended", back, ok, text, true)
			text = more
		}
	}
}
