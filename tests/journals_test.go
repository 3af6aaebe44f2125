package tests

import (
	"fmt"
	"math/rand"
	"slices"
	"strings"
	"testing"

	"loop.example/g01095/impl"
)

// checkJournal checks all that there is to know of a text that may be a journal, one with something behind it, or neither.
func checkJournal(t *testing.T, text string) {
	t.Helper()
	what := fmt.Sprintf("of %q", text)
	list, length := recoveredIn(text)
	got, count, ok := impl.RecoverJournal(text)
	expectDeeds(t, "RecoverJournal "+what, got, ok, list, true)
	expect(t, "RecoverJournal "+what, count, ok, length, true)
	isJournal := int(length) == len(text)
	if !isJournal {
		list = nil
	}
	got, ok = impl.ReadJournal(text)
	expectDeeds(t, "ReadJournal "+what, got, ok, list, isJournal)
	less, ok := impl.UndoLast(text)
	if !isJournal || len(list) == 0 {
		expect(t, "UndoLast "+what, less, ok, "", false)
		return
	}
	expect(t, "UndoLast "+what, less, ok, journalOf(list[:len(list)-1]), true)
}

// usualJournals are lists of the lines of journals.
func usualJournals() [][]string {
	random := rand.New(rand.NewSource(410))
	list := [][]string{
		nil, {"next"}, {"next", "next"}, {"trust 0"}, {"trust 1 0", "next", "trust 1"}, {"propose 0 park 1 2 9 +1 a;", "vote 0 park yes", "next"}, {"propose 0 a 1 1 2 +1 a  b;-2 c;", "propose 11 b 5 6 7 ~3 x|y;", "vote 11 a none", "vote 3 b blank", "vote 3 b no"},
		slices.Repeat([]string{"next"}, 9), slices.Repeat([]string{"trust 0 1,2,3,4"}, 3),
	}
	for _, a := range randomAssemblies(411, 20, 5) {
		var texts []string
		for range 1 + random.Intn(5) {
			if d := randomDeed(random, a); len(deedText(d)) < 100 {
				texts = append(texts, deedText(d))
			}
		}
		list = append(list, texts)
	}
	return list
}

func TestJournalText(t *testing.T) {
	texts := usualDeeds()
	for count := range impl.MaxDeeds + 2 {
		list := slices.Repeat(texts, 3)[:count]
		got, ok := impl.JournalText(deeds(list...))
		if count > impl.MaxDeeds {
			expect(t, "JournalText of too many deeds", got, ok, "", false)
			break
		}
		expect(t, fmt.Sprint("JournalText of ", count, " deeds"), got, ok, journal(list...), true)
		checkJournal(t, got)
	}
	for _, list := range usualJournals() {
		got, ok := impl.JournalText(deeds(list...))
		expect(t, fmt.Sprintf("JournalText of %q", list), got, ok, journal(list...), true)
		checkJournal(t, got)
	}
	for name, d := range invalidDeeds() {
		for _, list := range [][]impl.Deed{{d}, {d, deed("next")}, {deed("next"), d}, {deed("next"), d, deed("next")}} {
			got, ok := impl.JournalText(list)
			expect(t, "JournalText with "+name, got, ok, "", false)
		}
	}
	got, ok := impl.JournalText(make([]impl.Deed, 1000))
	expect(t, "JournalText of 1000 deeds without a kind", got, ok, "", false)
}

// The document's examples, and check numbers by hand: 31 * 1353 + 1136 is 43079, and 4 * 9973 less than this is 3187.
func TestJournalExamples(t *testing.T) {
	for text, list := range map[string][]impl.Deed{"": nil, "1353 next\n": deeds("next"), "1353 next\n3187 next\n": deeds("next", "next")} {
		got, ok := impl.JournalText(list)
		expect(t, "JournalText", got, ok, text, true)
		read, ok := impl.ReadJournal(text)
		expectDeeds(t, "ReadJournal", read, ok, list, true)
	}
	for _, text := range []string{"1354 next\n", "1353 next", "1353 nex\n", "1353  next\n", "1353\n", "\n", " ", "next\n", "1353 next\n\n", "\n1353 next\n", "1353 next\n1353 next\n", "3187 next\n1353 next\n", "3187 next\n", "01353 next\n", "+1353 next\n", "11326 next\n", "-8620 next\n", "1353 next\r\n", "1353\tnext\n", " 1353 next\n", "1353 next \n", "1353 next\n3187 nex", "1353 NEXT\n", "1353 next\n\xff"} {
		got, ok := impl.ReadJournal(text)
		expectDeeds(t, fmt.Sprintf("ReadJournal of %q", text), got, ok, nil, false)
		checkJournal(t, text)
	}
	list, length, ok := impl.RecoverJournal("1353 next\n3187 nex")
	expectDeeds(t, "RecoverJournal", list, ok, deeds("next"), true)
	expect(t, "RecoverJournal", length, ok, 10, true)
}

// A cut journal has the deeds whose lines are whole.
func TestCutJournals(t *testing.T) {
	for _, texts := range usualJournals() {
		whole, lines := journal(texts...), journalLines(texts...)
		for at := range len(whole) + 1 {
			kept, length := 0, 0
			for kept < len(lines) && length+len(lines[kept]) <= at {
				length += len(lines[kept])
				kept++
			}
			list, got, ok := impl.RecoverJournal(whole[:at])
			what := fmt.Sprintf("RecoverJournal of %q", whole[:at])
			expectDeeds(t, what, list, ok, deeds(texts[:kept]...), true)
			expect(t, what, got, ok, int64(length), true)
			checkJournal(t, whole[:at])
			checkJournal(t, whole[at:])
		}
	}
}

// In a journal with another byte, the deeds of the lines before this byte are intact, and no others.
func TestDamagedJournals(t *testing.T) {
	const wrong = "0157 ,;nx+\n\t\x00\xff"
	for _, texts := range usualJournals() {
		whole, lines := journal(texts...), journalLines(texts...)
		kept, length := 0, 0
		for at := range len(whole) {
			if at == length+len(lines[kept]) {
				length += len(lines[kept])
				kept++
			}
			for i := range len(wrong) {
				if wrong[i] == whole[at] {
					continue
				}
				damaged := whole[:at] + wrong[i:i+1] + whole[at+1:]
				list, got, ok := impl.RecoverJournal(damaged)
				what := fmt.Sprintf("RecoverJournal of %q", damaged)
				expectDeeds(t, what, list, ok, deeds(texts[:kept]...), true)
				expect(t, what, got, ok, int64(length), true)
				if _, ok := impl.ReadJournal(damaged); ok {
					t.Errorf("ReadJournal reads %q", damaged)
				}
			}
		}
		if len(whole) < 200 {
			for near := range nearTexts(whole, "015 ,;n\n\xff") {
				checkJournal(t, near)
			}
		}
	}
}

// Lines that are exchanged, doubled, left out, or have the check number of another line.
func TestJournalsWithOtherLines(t *testing.T) {
	changed := 0
	check := func(lines []string, whole string) {
		text := strings.Join(lines, "")
		checkJournal(t, text)
		if text != whole {
			changed++
		}
	}
	for _, texts := range usualJournals() {
		whole, lines := journal(texts...), journalLines(texts...)
		for i := range lines {
			check(slices.Delete(slices.Clone(lines), i, i+1), whole)
			check(slices.Insert(slices.Clone(lines), i, lines[i]), whole)
			check(slices.Insert(slices.Clone(lines), i, "\n"), whole)
			number, text, _ := strings.Cut(lines[i], " ")
			for _, other := range []string{"0" + number, "+" + number, "-" + number, "", "0", "7", fmt.Sprint(integer(number) + 9973), fmt.Sprint(integer(number) - 9973), fmt.Sprint(integer(number) + 1)} {
				check(slices.Replace(slices.Clone(lines), i, i+1, other+" "+text), whole)
			}
			check(slices.Replace(slices.Clone(lines), i, i+1, number+text), whole)
			check(slices.Replace(slices.Clone(lines), i, i+1, text), whole)
			for k := range lines {
				swapped := slices.Clone(lines)
				swapped[i], swapped[k] = swapped[k], swapped[i]
				check(swapped, whole)
				other, _, _ := strings.Cut(lines[k], " ")
				check(slices.Replace(slices.Clone(lines), i, i+1, other+" "+text), whole)
			}
		}
	}
	if changed < 500 {
		t.Errorf("only %d journals are changed", changed)
	}
}

// RecoverJournal against its definition: of all beginnings of a text, the longest one that is a journal.
func TestRecoverIsTheLongestJournal(t *testing.T) {
	for _, texts := range usualJournals() {
		whole := journal(texts...)
		if len(whole) > 150 {
			continue
		}
		for _, text := range []string{whole, whole + "x", whole + "1353 next\n", whole + whole, whole + "\n" + whole, strings.Replace(whole, "e", "f", 1), strings.ToUpper(whole)} {
			var want []impl.Deed
			longest := 0
			for at := range len(text) + 1 {
				if list, ok := impl.ReadJournal(text[:at]); ok {
					want, longest = list, at
				}
			}
			got, length, ok := impl.RecoverJournal(text)
			expectDeeds(t, fmt.Sprintf("RecoverJournal of %q", text), got, ok, want, true)
			expect(t, fmt.Sprintf("RecoverJournal of %q", text), length, ok, int64(longest), true)
		}
	}
}

// A journal has at most MaxDeeds deeds; what is behind them is no part of it, even if it would be a line of a longer one.
func TestJournalsOfMaxDeeds(t *testing.T) {
	for _, texts := range [][]string{slices.Repeat([]string{"next"}, impl.MaxDeeds+1), slices.Repeat(usualDeeds(), 3)[:impl.MaxDeeds+1]} {
		full, more := journal(texts[:impl.MaxDeeds]...), journal(texts...)
		list, ok := impl.ReadJournal(full)
		expectDeeds(t, "ReadJournal of MaxDeeds", list, ok, deeds(texts[:impl.MaxDeeds]...), true)
		list, ok = impl.ReadJournal(more)
		expectDeeds(t, "ReadJournal of one more", list, ok, nil, false)
		list, length, ok := impl.RecoverJournal(more)
		expectDeeds(t, "RecoverJournal of one more", list, ok, deeds(texts[:impl.MaxDeeds]...), true)
		expect(t, "RecoverJournal of one more", length, ok, int64(len(full)), true)
		checkJournal(t, full)
		checkJournal(t, more)
	}
}

func TestConsoleLimits(t *testing.T) {
	limits := []int{impl.MaxJournal, impl.MaxScript, impl.MaxScriptLines}
	expectList(t, "the limits of the document", limits, true, []int{40000, 4000, 60}, true)
}

// TestMaxJournal tries texts of just MaxJournal bytes, and of one more.
func TestMaxJournal(t *testing.T) {
	longest, ok := impl.JournalText(slices.Repeat([]impl.Deed{longestDeed()}, impl.MaxDeeds))
	if !ok || len(longest) > impl.MaxJournal {
		t.Errorf("the longest journal has %d bytes, %v", len(longest), ok)
	}
	checkJournal(t, longest)
	for _, text := range []string{"", "1353 next\n", longest} {
		for _, filling := range []string{"x", "\n", " ", "9", "\xff", ";"} {
			whole := text + strings.Repeat(filling, impl.MaxJournal-len(text))
			checkJournal(t, whole)
			checkJournal(t, whole[:len(whole)-1])
			list, length, ok := impl.RecoverJournal(whole + filling)
			expectDeeds(t, "RecoverJournal beyond MaxJournal", list, ok, nil, false)
			expect(t, "RecoverJournal beyond MaxJournal", length, ok, 0, false)
			list, ok = impl.ReadJournal(whole + filling)
			expectDeeds(t, "ReadJournal beyond MaxJournal", list, ok, nil, false)
			less, ok := impl.UndoLast(whole + filling)
			expect(t, "UndoLast beyond MaxJournal", less, ok, "", false)
		}
	}
}

// Undoing takes one deed after another, whether these could be done or not.
func TestUndoLast(t *testing.T) {
	for _, texts := range append(usualJournals(), slices.Repeat(usualDeeds(), 3)[:impl.MaxDeeds]) {
		text := journal(texts...)
		for count := len(texts) - 1; count >= 0; count-- {
			less, ok := impl.UndoLast(text)
			expect(t, fmt.Sprintf("UndoLast of %q", text), less, ok, journal(texts[:count]...), true)
			text = less
		}
		less, ok := impl.UndoLast(text)
		expect(t, "UndoLast of no deed", less, ok, "", false)
	}
}
