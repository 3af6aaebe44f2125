package tests

import (
	"fmt"
	"math"
	"slices"
	"strings"
	"testing"

	"loop.example/g01095/impl"
)

// textCalls are the functions of a text that may be that of a deed or of a journal.
func textCalls(s string) []call {
	return []call{
		{"ReadDeed", func() []any { return pair(impl.ReadDeed(s)) }},
		{"ReadJournal", func() []any { return pair(impl.ReadJournal(s)) }},
		{"RecoverJournal", func() []any {
			list, length, ok := impl.RecoverJournal(s)
			return []any{list, length, ok}
		}},
		{"UndoLast", func() []any { return pair(impl.UndoLast(s)) }},
	}
}

// deskCalls are the functions of an assembly with a journal, which a deed and a line are tried with.
func deskCalls(a impl.Assembly, text string, d impl.Deed, line string) []call {
	desk := impl.Desk{Start: a, Journal: text}
	return []call{
		{"ReplayJournal", func() []any { return pair(impl.ReplayJournal(a, text)) }},
		{"AppendDeed", func() []any { return pair(impl.AppendDeed(a, text, d)) }},
		{"ValidDesk", func() []any { return single(impl.ValidDesk(desk)) }},
		{"DeskState", func() []any { return pair(impl.DeskState(desk)) }},
		{"DeskCommand", func() []any {
			after, output, ok := impl.DeskCommand(desk, line)
			return []any{after, output, ok}
		}},
	}
}

// unusualTexts are texts of deeds, journals and lines, damaged ones, and very long ones.
func unusualTexts() []string {
	list := []string{
		"", "\n", " ", "\x00", "\xff", "ä", "next\n", "1353 next\n", "1353 next\n3187 nex", "1353 next\n\n", journal(slices.Repeat([]string{"next"}, impl.MaxDeeds)...), journal(slices.Repeat([]string{"next"}, impl.MaxDeeds+1)...), journal(deedText(longestDeed())), "trust 0 0", "trust 0 " + strings.Repeat("1,", 50000),
		"propose 0 park 1 2 9 +1 a", "propose 0 park 1 2 9 " + strings.Repeat("+1 a;", 20000), "vote 0 " + strings.Repeat("a", 100000) + " yes", "undo", "deeds", "text", "count park", "verdict park", "leaders park", "path 1 park", "path x park", "count " + strings.Repeat("a", 100000),
	}
	for _, one := range []string{" ", "\n", ";", "next\n", "1353 next\n", "9", "\xff"} {
		list = append(list, strings.Repeat(one, impl.MaxJournal/len(one)), strings.Repeat(one, 100000))
	}
	return append(list, usualDeeds()...)
}

func TestTextsOfDeedsKeepTheConventions(t *testing.T) {
	for _, s := range unusualTexts() {
		checkCalls(t, textCalls(s), s)
	}
	for _, list := range unusualDeeds() {
		list := roomy(list)
		checkCalls(t, []call{{"JournalText", func() []any { return pair(impl.JournalText(list)) }}}, list)
		for _, d := range list[:min(len(list), 3)] {
			checkCalls(t, []call{{"DeedText", func() []any { return pair(impl.DeedText(d)) }}}, d)
		}
	}
}

func TestDesksKeepTheConventions(t *testing.T) {
	added := roomy(deed("propose 0 dogs 7 8 9 +9 a;+10 a"))
	for _, a := range unusualAssemblies() {
		a := roomy(a)
		for _, text := range []string{"", "1353 next\n", "x"} {
			checkCalls(t, deskCalls(a, text, added, "next"), a, added)
		}
	}
	full := changed(fullAssembly(), func(a *impl.Assembly) { a.Motions, a.Acts = a.Motions[3:], a.Acts[:3] })
	for _, a := range []impl.Assembly{roomy(full), roomy(assembly("- -0 -", "park y.n 1 2 9 +1 a"))} {
		for _, text := range unusualTexts() {
			checkCalls(t, deskCalls(a, text, added, "undo"), a, added)
			checkCalls(t, deskCalls(a, journal("next", "trust 0 1,2"), added, text), a, added)
		}
		for _, list := range unusualDeeds() {
			for _, d := range list[:min(len(list), 1)] {
				d := roomy(d)
				checkCalls(t, deskCalls(a, journal("trust 1"), d, deedText(d)), a, d)
			}
		}
	}
}

func TestScriptsKeepTheConventions(t *testing.T) {
	check := func(members, rule int64, script string) {
		checkCalls(t, []call{
			{"RunScript", func() []any { return pair(impl.RunScript(members, rule, script)) }},
			{"FailedLines", func() []any { return pair(impl.FailedLines(members, rule, script)) }},
		}, fmt.Sprint(members, rule), script)
	}
	texts := unusualTexts()
	for _, s := range append(texts, strings.Join(texts[15:], "\n")+"\n", strings.Join(usualDeeds(), "\n")+"\n") {
		check(3, impl.RuleSum, s)
		check(12, impl.RuleDepth, s+"\n")
	}
	for _, n := range []int64{math.MinInt64, -1, 0, 1, 12, 13, 1 << 32, 1 << 62, math.MaxInt64} {
		check(n, 0, "next\n")
		check(1, n, "next\n")
		check(n, n, "x")
	}
}

// What DeskCommand returns stays as it is whatever becomes of the desk that it was given, and the other way round.
func TestDesksOfChangedArguments(t *testing.T) {
	a := changed(fullAssembly(), func(a *impl.Assembly) { a.Motions, a.Acts = a.Motions[3:], a.Acts[:4] })
	for _, line := range []string{"next", "undo", "fly", "text"} {
		d := impl.Desk{Start: roomy(a), Journal: journal("trust 0")}
		text := assemblyText(d.Start)
		after, output, ok := impl.DeskCommand(d, line)
		d.Start.Trust[0][0], d.Start.Motions[0].Votes[0], d.Start.Motions[0].Patch[0].Id, d.Start.Acts[0].Patch[0].Id, d.Start.Base[0].Id = 7, 7, 7, 7, 7
		if !ok || assemblyText(after.Start) != text {
			t.Errorf("DeskCommand %q: after the argument has changed: %+v, %q, %v", line, after, output, ok)
		}
	}
}
