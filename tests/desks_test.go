package tests

import (
	"fmt"
	"math/rand"
	"slices"
	"strings"
	"testing"

	"loop.example/g01095/impl"
)

// usualDesk has a decided motion, park, and an open one, tax, and an article. Member 1 trusts member 0, and member 3 nobody.
func usualDesk() *deskIn {
	return newDesk(under(assembly("- -0 - -"), "1 a", nil), deeds("propose 0 park 1 2 9 ~1 a|b;", "vote 0 park yes", "vote 2 park no", "next", "propose 1 tax 5 6 7 +2 c;", "vote 2 tax blank"))
}

// TestCommands goes through the rows of the table.
func TestCommands(t *testing.T) {
	for line, want := range map[string]string{
		"trust 0": "ok", "trust 3 2,0": "ok", "trust 4": "no", "trust 11 0": "no", "trust 0 4": "no", "trust 12": "what", "trust 0 0": "what",
		"vote 3 tax no": "ok", "vote 3 tax none": "ok", "vote 3 park yes": "no", "vote 3 dogs yes": "no", "vote 4 tax yes": "no", "vote 12 tax yes": "what", "vote 3 tax maybe": "what",
		"propose 3 dogs 2 2 3 +9 z;": "ok", "propose 3 tax 2 2 3 +9 z;": "no", "propose 3 park 2 2 3 +9 z;": "no", "propose 3 dogs 1 2 3 +9 z;": "no", "propose 4 dogs 2 2 3 +9 z;": "no", "propose 3 dogs 2 2 3 +9 z": "what",
		"next": "day 2", "next ": "what", " next": "what", "next 1": "what", "next next": "what",
		"undo": "ok", "undo ": "what", " undo": "what", "undo 1": "what", "undo undo": "what", "Undo": "what", "undo\n": "what",
		"deeds": "6", "deeds ": "what", " deeds": "what", "deeds park": "what", "deed": "what",
		"text": "1 a", "text ": "what", "text 1": "what", "texts": "what",
		"count park": "1 2 0 1", "count tax": "0 0 1 3", "count dogs": "no", "count Park": "no", "count p\xffrk": "no", "count pärk": "no", "count": "what", "count ": "what", "count  park": "what", "count park ": "what", " count park": "what", "count park tax": "what", "count\tpark": "what", "counts park": "what", "COUNT park": "what",
		"verdict park": "adopted", "verdict tax": "void", "verdict dogs": "no", "verdict": "what", "verdict ": "what", "verdict  park": "what", "verdict park tax": "what", "verdict park ": "what",
		"leaders park": "0", "leaders tax": "2", "leaders dogs": "no", "leaders": "what", "leaders ": "what", "leaders  park": "what", "leaders park park": "what",
		"path 0 park": "0", "path 1 park": "1 0", "path 2 park": "2", "path 3 park": "no", "path 4 park": "no", "path 12 park": "no", "path -1 park": "no", "path 999999999 park": "no", "path 0 tax": "no", "path 1 tax": "no", "path 2 tax": "2", "path 0 dogs": "no", "path 9 dogs": "no",
		"path 1000000000 park": "what", "path 18446744073709551616 park": "what", "path x park": "what", "path 00 park": "what", "path 01 park": "what", "path +1 park": "what", "path -0 park": "what", "path x dogs": "what", "path park 0": "what", "path 0": "what", "path park": "what", "path": "what", "path ": "what", "path 0 ": "what", "path  park": "what", "path  0 park": "what", "path 0  park": "what", "path 0 park 1": "what", "path 0 park ": "what", "path 0,1 park": "what",
		"": "what", " ": "what", "  ": "what", "\t": "what", "\n": "what", "fly": "what", "what": "what", "no": "what", "ok": "what", "park": "what", "help park": "what", "ünext": "what", "\xff": "what", "\xff\xfe next": "what", "\x00": "what", "次": "what", "next\nnext": "what", "next\r": "what", strings.Repeat("next ", 10000): "what", strings.Repeat("a", 100000): "what",
	} {
		if got := checkCommand(t, usualDesk(), line); strings.Join(got, "\n") != want {
			t.Errorf("the line %q: the tests want %q, and the document %q", line, got, want)
		}
	}
}

func TestUndoCommand(t *testing.T) {
	d := usualDesk()
	for left := len(d.deeds) - 1; left >= 0; left-- {
		expectList(t, "undo", checkCommand(t, d, "undo"), true, []string{"ok"}, true)
		expectList(t, "deeds", checkCommand(t, d, "deeds"), true, []string{fmt.Sprint(left)}, true)
	}
	expectList(t, "undo of no deed", checkCommand(t, d, "undo"), true, []string{"no"}, true)
	// What has been undone can be done again, or something else.
	for _, line := range []string{"propose 0 park 1 2 9 ~1 a|b;", "undo", "verdict park", "propose 0 tax 1 2 9 ~1 a|b;", "verdict tax", "next", "undo", "vote 0 tax yes", "vote 1 tax yes", "next", "undo", "undo", "count tax", "next"} {
		checkCommand(t, d, line)
	}
}

func TestTextCommand(t *testing.T) {
	for _, base := range []string{"", "1 a", "9 a b  c;99 z", "1 a;2 b;3 c;4 d;5 e;6 f;7 g;8 h"} {
		d := newDesk(under(assembly("-"), base, nil), nil)
		want := []string{"empty"}
		if base != "" {
			want = strings.Split(base, ";")
		}
		expectList(t, "text", checkCommand(t, d, "text"), true, want, true)
	}
	d := newDesk(under(assembly("-"), "1 a;2 b", nil), deeds("propose 0 park 1 2 3 -1 a;-2 b;", "vote 0 park yes"))
	for _, want := range []string{"1 a;2 b", "1 a;2 b", "empty", "1 a;2 b", "1 a;2 b"} {
		expectList(t, "text of a day", checkCommand(t, d, "text"), true, strings.Split(want, ";"), true)
		checkCommand(t, d, "next")
	}
}

func TestLeadersCommand(t *testing.T) {
	d := newDesk(assembly("-1 -0 - -2"), deeds("propose 0 park 1 2 9 +1 a;"))
	for _, c := range []struct{ vote, leaders string }{{"", "none"}, {"vote 2 park blank", "2"}, {"vote 0 park no", "0 2"}, {"vote 2 park none", "0"}, {"vote 1 park yes", "0 1"}, {"vote 0 park none", "1"}, {"vote 1 park none", "none"}} {
		if c.vote != "" {
			checkCommand(t, d, c.vote)
		}
		expectList(t, "leaders after "+c.vote, checkCommand(t, d, "leaders park"), true, []string{c.leaders}, true)
	}
}

// By breadth member 0 is settled with 1, by the sum of ranks with 2, and by depth with 3.
func TestPathCommand(t *testing.T) {
	for rule, want := range []string{"0 1", "0 5 2", "0 4 7 6 3"} {
		a := assembly("-4,5,7,1 - - - -7,6 -2 -3 -6", "park .ynb.... 1 2 9 +1 a")
		a.Rule = int64(rule)
		d := newDesk(a, nil)
		got := checkCommand(t, d, "path 0 park")
		expectList(t, fmt.Sprint("path by the rule ", rule), got, true, []string{want}, true)
		for member := range 9 {
			checkCommand(t, d, fmt.Sprint("path ", member, " park"))
		}
		checkCommand(t, d, "count park")
		checkCommand(t, d, "leaders park")
	}
}

func TestVerdictCommand(t *testing.T) {
	for result, votes := range []string{"", "yyy", "nyb", "y..", "yyn"} {
		if result == 0 {
			continue
		}
		base := ""
		if result == impl.MotionBroken {
			base = "1 z"
		}
		a := under(assembly("- - -", "park "+votes+" 1 2 9 +1 a"), base, nil)
		for _, a := range []impl.Assembly{a, changed(a, func(a *impl.Assembly) { a.Day, a.Motions[0].Result = 1, int64(result) })} {
			word := []string{"", "adopted", "rejected", "void", "broken"}[result]
			expectList(t, "verdict", checkCommand(t, newDesk(a, nil), "verdict park"), true, []string{word}, true)
		}
	}
}

func TestNextCommand(t *testing.T) {
	// On day 1 nothing is decided, on day 2 one motion, and on day 3 all others, in the order of the list.
	a := under(assembly("- -", "park yy 3 9 10 +2 a", "tax y. 2 3 9 +1 a", "a nn 3 3 9 +4 a", "z .. 3 4 9 +5 a", "taxes yy 3 4 5 +2 b"), "2 b", nil)
	d := newDesk(a, nil)
	for day, decided := range []string{"", "tax adopted", "park broken;a rejected;z void;taxes broken", ""} {
		want := append([]string{fmt.Sprint("day ", day+1)}, lines(decided)...)
		expectList(t, "next", checkCommand(t, d, "next"), true, want, true)
	}
	last := newDesk(changed(assembly("-"), func(a *impl.Assembly) { a.Day = impl.MaxDay - 1 }), nil)
	for _, want := range []string{"day 999", "no", "no"} {
		expectList(t, "next on the last days", checkCommand(t, last, "next"), true, []string{want}, true)
	}
}

// Beyond MaxDeeds no deed is done, but all queries are answered, and a deed can be undone.
func TestFullDesk(t *testing.T) {
	a := assembly("- -0", "park y. 41 50 60 +1 a")
	d := newDesk(a, slices.Repeat(deeds("next"), impl.MaxDeeds-1))
	for _, c := range []struct{ line, want string }{
		{"deeds", "39"}, {"next", "day 40"}, {"next", "no"}, {"trust 0", "no"}, {"vote 1 park yes", "no"}, {"propose 0 tax 42 43 44 +1 a;", "no"}, {"deeds", "40"}, {"count park", "0 2 0 0"}, {"path 1 park", "1 0"}, {"text", "empty"}, {"fly", "what"},
		{"undo", "ok"}, {"vote 1 park no", "ok"}, {"next", "no"}, {"count park", "1 1 0 0"}, {"deeds", "40"}, {"undo", "ok"}, {"undo", "ok"}, {"next", "day 39"}, {"next", "day 40"}, {"next", "no"},
	} {
		expectList(t, c.line, checkCommand(t, d, c.line), true, []string{c.want}, true)
	}
}

// Random lines at random desks, one after another.
func TestRandomCommands(t *testing.T) {
	random := rand.New(rand.NewSource(430))
	outputs := map[string]int{}
	for _, a := range randomAssemblies(431, 100, 30) {
		d := newDesk(a, randomDeeds(random, a, random.Intn(impl.MaxDeeds+1), 0))
		for range 25 {
			line := randomLine(random, d.state)
			output := checkCommand(t, d, line)
			word, _, _ := strings.Cut(line, " ")
			answer := "told"
			if slices.Contains([]string{"ok", "no", "what"}, output[0]) {
				answer = output[0]
			}
			outputs[word+" "+answer]++
		}
	}
	for _, kind := range []string{"trust ok", "trust no", "vote ok", "vote no", "propose ok", "propose no", "next told", "next no", "undo ok", "deeds told", "text told", "count told", "count no", "verdict told", "verdict no", "leaders told", "leaders no", "path told", "path no", "path what", "count what", "vote what"} {
		if outputs[kind] < 2 {
			t.Errorf("only %d times %s of %v", outputs[kind], kind, outputs)
		}
	}
}

func TestDesksRefuse(t *testing.T) {
	good := assembly("- -0 -", "park y.n 1 2 9 +1 a")
	list := map[string]impl.Desk{"no fields": {}, "a cut journal": {Start: good, Journal: "1353 nex"}, "a journal that is none": {Start: good, Journal: "x"}, "a deed that cannot be done": {Start: good, Journal: journal("next", "trust 3")}, "too many deeds": {Start: good, Journal: journal(slices.Repeat([]string{"next"}, impl.MaxDeeds+1)...)}}
	for name, a := range invalidAssemblies() {
		list[name] = impl.Desk{Start: a}
		list[name+" and a deed"] = impl.Desk{Start: a, Journal: journal("next")}
	}
	for name, d := range list {
		state, ok := impl.DeskState(d)
		expectAssembly(t, "DeskState with "+name, state, ok, impl.Assembly{}, false)
		if impl.ValidDesk(d) {
			t.Errorf("the desk with %s is valid", name)
		}
		for _, line := range []string{"next", "undo", "deeds", "text", "count park", "fly", ""} {
			after, output, ok := impl.DeskCommand(d, line)
			expectList(t, "DeskCommand with "+name, output, ok, nil, false)
			if assemblyText(after.Start) != assemblyText(impl.Assembly{}) || after.Journal != "" {
				t.Errorf("DeskCommand with %s: got %+v", name, after)
			}
		}
	}
}
