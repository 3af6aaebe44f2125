package tests

import (
	"fmt"
	"math"
	"math/rand"
	"slices"
	"strings"
	"testing"

	"loop.example/g01095/impl"
)

// checkScript runs a script that is one, with members and a rule that there can be.
func checkScript(t *testing.T, members, rule int64, script string) {
	t.Helper()
	d := newDesk(impl.Assembly{Rule: rule, Trust: make([][]int64, members)}, nil)
	want, failed := "", []int64(nil)
	for i, line := range strings.Split(strings.TrimSuffix(script, "\n"), "\n") {
		if script == "" {
			break
		}
		output := d.execute(line)
		want += strings.Join(output, "\n") + "\n"
		if output[0] == "no" || output[0] == "what" {
			failed = append(failed, int64(i)+1)
		}
	}
	what := fmt.Sprintf("of %q with %d members by the rule %d", script, members, rule)
	got, ok := impl.RunScript(members, rule, script)
	expect(t, "RunScript "+what, got, ok, want, true)
	list, ok := impl.FailedLines(members, rule, script)
	expectList(t, "FailedLines "+what, list, ok, failed, true)
}

func refuseScript(t *testing.T, members, rule int64, script string) {
	t.Helper()
	what := fmt.Sprintf("of %.100q with %d members by the rule %d", script, members, rule)
	got, ok := impl.RunScript(members, rule, script)
	expect(t, "RunScript "+what, got, ok, "", false)
	list, ok := impl.FailedLines(members, rule, script)
	expectList(t, "FailedLines "+what, list, ok, nil, false)
}

// expectScript checks a script whose output and failed lines are written out.
func expectScript(t *testing.T, members int64, script []string, want []string, failed ...int64) {
	t.Helper()
	text := strings.Join(script, "\n") + "\n"
	got, ok := impl.RunScript(members, impl.RuleBreadth, text)
	expect(t, fmt.Sprintf("RunScript of %q", text), got, ok, strings.Join(want, "\n")+"\n", true)
	list, ok := impl.FailedLines(members, impl.RuleBreadth, text)
	expectList(t, fmt.Sprintf("FailedLines of %q", text), list, ok, failed, true)
	checkScript(t, members, impl.RuleBreadth, text)
}

func TestScripts(t *testing.T) {
	expectScript(t, 1, []string{"propose 0 park 1 2 9 +1 dogs are led;", "vote 0 park yes", "next"}, []string{"ok", "ok", "day 1", "park adopted"})
	expectScript(t, 3, []string{"trust 1 0", "propose 0 park 1 2 9 +1 dogs are led;", "vote 0 park yes", "vote 2 park no", "count park", "leaders park", "path 1 park", "verdict park", "vote 0 park none", "verdict park", "count park"},
		[]string{"ok", "ok", "ok", "ok", "1 2 0 0", "0", "1 0", "adopted", "ok", "void", "1 0 0 2"})
	expectScript(t, 2, []string{"", "fly", "undo", "next", "undo", "undo", "deeds", "count park", "path x park", "path 0 park", "trust 0 0", "trust 0 1", "trust 0 2"},
		[]string{"what", "what", "no", "day 1", "ok", "no", "0", "no", "what", "no", "what", "ok", "no"}, 1, 2, 3, 6, 8, 9, 10, 11, 13)
	expectScript(t, 1, []string{"propose 0 a 2 3 4 +1 x;", "propose 0 b 2 2 4 +2 y;", "propose 0 c 2 2 4 -2 y;", "propose 0 d 2 2 4 -2 y;", "vote 0 a blank", "vote 0 b yes", "vote 0 c yes", "vote 0 d yes", "next", "next", "text", "undo", "undo", "vote 0 c none", "next", "next", "text", "next", "next", "text"},
		[]string{"ok", "ok", "ok", "ok", "ok", "ok", "ok", "ok", "day 1", "day 2", "a rejected", "b adopted", "c adopted", "d broken", "empty", "ok", "ok", "ok", "day 1", "day 2", "a rejected", "b adopted", "c void", "d adopted", "empty", "day 3", "day 4", "empty"})
	expectScript(t, 12, []string{"path 11 \xff", "\xff", "ä", "count ä", "next\r", "vote 11 a yes\t", "verdict", "verdict a b"}, []string{"no", "what", "what", "no", "what", "what", "what", "what"}, 1, 2, 3, 4, 5, 6, 7, 8)
}

func TestRandomScripts(t *testing.T) {
	random := rand.New(rand.NewSource(440))
	long := 0
	for range 200 {
		members, rule := 1+random.Int63n(5), random.Int63n(3)
		d := newDesk(impl.Assembly{Rule: rule, Trust: make([][]int64, members)}, nil)
		script, count := "", impl.MaxScriptLines-random.Intn(2)*random.Intn(impl.MaxScriptLines)
		for range count {
			line := randomLine(random, d.state)
			if len(script)+len(line) >= impl.MaxScript {
				break
			}
			script += line + "\n"
			d.execute(line)
		}
		checkScript(t, members, rule, script)
		if len(d.deeds) > 10 {
			long++
		}
	}
	if long < 20 {
		t.Errorf("only %d scripts do many deeds", long)
	}
}

// TestScriptBounds tries scripts of no line, of one, of as much as there can be, and of one more.
func TestScriptBounds(t *testing.T) {
	checkScript(t, 1, 0, "")
	checkScript(t, 1, 0, "\n")
	checkScript(t, 1, 0, "next\n")
	checkScript(t, 1, 0, strings.Repeat("\n", impl.MaxScriptLines))
	checkScript(t, 1, 0, strings.Repeat("next\n", impl.MaxScriptLines))
	refuseScript(t, 1, 0, strings.Repeat("\n", impl.MaxScriptLines+1))
	refuseScript(t, 1, 0, strings.Repeat("next\n", impl.MaxScriptLines+1))
	refuseScript(t, 1, 0, strings.Repeat("\n", impl.MaxScript))
	refuseScript(t, 1, 0, strings.Repeat("\n", impl.MaxScript+1))
	for _, filling := range []string{"x", " ", "ä", "\xff", "\x00"} {
		one := strings.Repeat(filling, impl.MaxScript/len(filling))[:impl.MaxScript-1] + "\n"
		checkScript(t, 1, 0, one)
		refuseScript(t, 1, 0, filling+one)
		many := strings.Repeat("next\n", impl.MaxScriptLines-1)
		many += one[len(many):]
		checkScript(t, 2, 1, many)
		refuseScript(t, 2, 1, many[:5]+filling+many[5:])
		refuseScript(t, 2, 1, many[:len(many)-1]+"x")
	}
	for _, script := range []string{"next", "next\nnext", "\nnext", " ", "x", "next\n ", "next\n\x00", "next\r", "\xff", strings.Repeat("next\n", impl.MaxScriptLines-1) + "next", strings.Repeat("next\n", impl.MaxScriptLines) + "next", strings.Repeat("x", impl.MaxScript), strings.Repeat("x", impl.MaxScript+1), strings.Repeat("x", impl.MaxScript) + "\n"} {
		refuseScript(t, 1, 0, script)
	}
}

func TestScriptsOfMembersAndRules(t *testing.T) {
	const script = "trust 0 1\npropose 0 park 1 2 9 +1 a;\nvote 1 park yes\ncount park\npath 0 park\ntrust 11 0,1,2,3\nvote 11 park no\nnext\n"
	for _, members := range []int64{math.MinInt64, -12, -1, 0, 1, 2, 11, 12, 13, 1 << 32, 1<<32 + 1, math.MaxInt64} {
		for _, rule := range []int64{math.MinInt64, -1, 0, 1, 2, 3, 1 << 32, math.MaxInt64} {
			for _, text := range []string{"", script} {
				if members >= 1 && members <= impl.MaxMembers && rule >= impl.RuleBreadth && rule <= impl.RuleDepth {
					checkScript(t, members, rule, text)
				} else {
					refuseScript(t, members, rule, text)
				}
			}
			refuseScript(t, members, rule, "next")
		}
	}
}

// After MaxDeeds deeds the lines of a script fail, until one of them is undone.
func TestScriptOfManyDeeds(t *testing.T) {
	script := strings.Repeat("next\n", impl.MaxDeeds) + "next\nnext\ntrust 0\nundo\ntrust 0\nnext\ndeeds\n"
	list, ok := impl.FailedLines(1, impl.RuleSum, script)
	expectList(t, "FailedLines", list, ok, []int64{41, 42, 43, 46}, true)
	checkScript(t, 1, impl.RuleSum, script)
}

// The commands of a script, one at a time, do the same as the script.
func TestScriptsAreCommands(t *testing.T) {
	random := rand.New(rand.NewSource(441))
	for range 40 {
		members, rule := 1+random.Int63n(4), random.Int63n(3)
		start, _ := impl.NewAssembly(members, rule, nil)
		d, lines, all := impl.Desk{Start: start}, "", ""
		for range 20 {
			state, _ := impl.DeskState(d)
			line := randomLine(random, state)
			after, output, ok := impl.DeskCommand(d, line)
			if !ok || !impl.ValidDesk(after) {
				t.Errorf("the line %q at %+v: got %+v, %v", line, d, after, ok)
			}
			d, lines, all = after, lines+line+"\n", all+strings.Join(output, "\n")+"\n"
		}
		if len(lines) <= impl.MaxScript {
			got, ok := impl.RunScript(members, rule, lines)
			expect(t, fmt.Sprintf("RunScript of %q", lines), got, ok, all, true)
		}
	}
}

// The state of the assembly is that of its journal, its acts are those of its adopted motions, and each count is that of the settled
// ballots.
func TestTheStateIsThatOfTheJournal(t *testing.T) {
	random := rand.New(rand.NewSource(442))
	entered, counted := 0, 0
	for range 150 {
		start, _ := impl.NewAssembly(1+random.Int63n(5), random.Int63n(3), randomStatute(random))
		d := impl.Desk{Start: start}
		for range 60 {
			state, _ := impl.DeskState(d)
			after, output, ok := impl.DeskCommand(d, randomLine(random, state))
			if !ok || len(output) == 0 || !impl.SameAssembly(after.Start, start) {
				t.Fatalf("a line at %+v: got %+v, %q, %v", d, after, output, ok)
			}
			d = after
			checkWhole(t, d)
		}
		state, _ := impl.DeskState(d)
		entered += len(state.Acts)
		for _, m := range state.Motions {
			checkOutputs(t, d, state, m)
			counted++
		}
	}
	if entered < 30 || counted < 100 {
		t.Errorf("only %d acts are entered, and %d motions are counted", entered, counted)
	}
}

// checkWhole checks a desk that begins without acts and motions.
func checkWhole(t *testing.T, d impl.Desk) {
	t.Helper()
	state, ok := impl.DeskState(d)
	list, isRead := impl.ReadJournal(d.Journal)
	after, done, isDone := impl.DoDeeds(d.Start, list)
	if !ok || !isRead || !isDone || done != int64(len(list)) || !impl.SameAssembly(state, after) {
		t.Errorf("%+v: the state is %+v, and after the deeds of the journal it is %+v", d, state, after)
	}
	text, ok := impl.JournalText(list)
	expect(t, "the journal of its deeds", text, ok, d.Journal, true)
	expectActs(t, fmt.Sprintf("the acts of %+v", state), state.Acts, true, actsOfAdopted(state), true)
}

// checkOutputs compares what a desk tells of a motion with the settled ballots.
func checkOutputs(t *testing.T, d impl.Desk, state impl.Assembly, m impl.Motion) {
	t.Helper()
	told := func(line string) string {
		_, output, ok := impl.DeskCommand(d, line)
		if !ok || len(output) != 1 {
			t.Fatalf("the line %q at %+v: got %q, %v", line, d, output, ok)
		}
		return output[0]
	}
	voices, _ := impl.VoicesFor(state, m.Title)
	settled, _ := impl.SettleVoices(voices, state.Rule)
	lost, _ := impl.LostMembers(voices)
	ballots := map[int64]int{}
	for member, end := range settled {
		path := told(fmt.Sprint("path ", member, " ", m.Title))
		if end < 0 {
			expect(t, "the path of a lost member", path, slices.Contains(lost, int64(member)), "no", true)
			continue
		}
		ballots[m.Votes[end]]++
		if path != fmt.Sprint(end) && !strings.HasSuffix(path, fmt.Sprint(" ", end)) {
			t.Errorf("the path of member %d on %q in %+v is %q, and its ballot is settled with %d", member, m.Title, state, path, end)
		}
	}
	want := fmt.Sprint(ballots[impl.VoteNo], " ", ballots[impl.VoteYes], " ", ballots[impl.VoteBlank], " ", len(lost))
	expect(t, fmt.Sprintf("the count of %q in %+v", m.Title, state), told("count "+m.Title), true, want, true)
	verdict, _ := impl.VerdictOf(state, m.Title)
	expect(t, fmt.Sprintf("the verdict on %q in %+v", m.Title, state), told("verdict "+m.Title), true, resultIn(verdict), true)
}
