package tests

import (
	"fmt"
	"math"
	"math/rand"
	"slices"
	"testing"

	"loop.example/g01095/impl"
)

func TestValidActs(t *testing.T) {
	for _, list := range [][]impl.Act{
		nil, acts("0 1 "), acts("0 1000 +1 a"), acts("999 1000 +1 a"), acts("0 1 ", "0 1 ", "0 1000 "), acts("3 9 +1 a", "3 4 -1 a", "4 1000 ~1 a|b"), acts("5 9 ", "6 7 "), acts("0 9 ", "998 999 ", "999 1000 "),
		slices.Repeat(acts("7 8 +1 a"), impl.MaxActs), {{From: 1, Until: 2, Patch: addAll(1, impl.MaxEdits)}},
	} {
		if !impl.ValidActs(list) {
			t.Errorf("ValidActs of %s is false", actsText(list))
		}
	}
	for name, list := range invalidActs() {
		if impl.ValidActs(list) {
			t.Errorf("ValidActs is true for %s: %s", name, actsText(list))
		}
	}
	for from := int64(-2); from <= 1002; from++ {
		for _, until := range []int64{-1, 0, 1, 2, from - 1, from, from + 1, 999, 1000, 1001} {
			want := from >= 0 && from <= 1000 && until >= 0 && until <= 1000 && from < until
			if list := []impl.Act{{From: from, Until: until}}; impl.ValidActs(list) != want {
				t.Errorf("ValidActs of %s is %v", actsText(list), !want)
			}
		}
	}
}

func TestInvalidActsAreRefused(t *testing.T) {
	for name, list := range invalidActs() {
		force, ok := impl.ActsInForce(list, 0)
		expectList(t, "ActsInForce of "+name, force, ok, nil, false)
		checkRefused(t, " of "+name, nil, list)
		checkRefused(t, " of "+name, statute("1 a"), list)
	}
}

// noDays are numbers that are no days.
func noDays() []int64 {
	return []int64{-1, -2, impl.MaxDay + 1, impl.MaxDay + 2, math.MaxInt64, math.MinInt64, 1 << 32, 1<<32 + 3}
}

func TestNoDays(t *testing.T) {
	list := acts("0 1000 +1 a", "3 1000 +2 b")
	for _, day := range noDays() {
		what := fmt.Sprint(" of day ", day)
		force, ok := impl.ActsInForce(list, day)
		expectList(t, "ActsInForce"+what, force, ok, nil, false)
		force, ok = impl.ActsInForce(nil, day)
		expectList(t, "ActsInForce"+what+" without acts", force, ok, nil, false)
		text, ok := impl.TextOn(nil, list, day)
		expectList(t, "TextOn"+what, text, ok, nil, false)
		text, ok = impl.TextOn(statute("1 a"), nil, day)
		expectList(t, "TextOn"+what+" without acts", text, ok, nil, false)
		source, ok := impl.SourceOf(nil, list, day, 1)
		expect(t, "SourceOf"+what, source, ok, 0, false)
		source, ok = impl.SourceOf(statute("1 a"), nil, day, 1)
		expect(t, "SourceOf"+what+" without acts", source, ok, 0, false)
		for k := range int64(2) {
			ended, ok := impl.EndAct(nil, list, k, day)
			expectActs(t, "EndAct"+what, ended, ok, nil, false)
		}
	}
}

// smallHistories returns all histories of a few acts on the first days or from these on.
func smallHistories() (bases [][]impl.Article, lists [][]impl.Act) {
	var single []impl.Act
	for _, days := range []string{"0 1", "0 2", "0 1000", "1 2", "1 1000", "2 1000"} {
		for _, p := range []string{" +1 a", " -1 a", " ~1 a|b"} {
			single = append(single, acts(days+p)...)
		}
	}
	lists = [][]impl.Act{nil}
	for first := 0; len(lists[len(lists)-1]) < 2; {
		end := len(lists)
		for ; first < end; first++ {
			for _, act := range single {
				if last := len(lists[first]) - 1; last < 0 || lists[first][last].From <= act.From {
					lists = append(lists, append(slices.Clone(lists[first]), act))
				}
			}
		}
	}
	return [][]impl.Article{nil, statute("1 a"), statute("2 c")}, lists
}

// daysNear returns the days at and next to those on which acts begin or end, and some others.
func daysNear(list []impl.Act) []int64 {
	days := []int64{0, 1, 499, 998, 999}
	for _, act := range list {
		for near := int64(-1); near <= 1; near++ {
			days = append(days, act.From+near, act.Until+near)
		}
	}
	slices.Sort(days)
	return slices.DeleteFunc(slices.Compact(days), func(day int64) bool { return day < 0 || day > impl.MaxDay })
}

// checkHistory checks all that there is to know of acts, and reports the intervals of broken days.
func checkHistory(t *testing.T, base []impl.Article, list []impl.Act, ids ...int64) [][]int64 {
	t.Helper()
	what := fmt.Sprintf(" of %v and %s", base, actsText(list))
	days := daysIn(base, list)
	broken, ok := impl.BrokenDays(base, list)
	expectLists(t, "BrokenDays"+what, broken, ok, brokenIn(days), true)
	want, wantOK := changesIn(days)
	changes, ok := impl.ChangeDays(base, list)
	expectList(t, "ChangeDays"+what, changes, ok, want, wantOK)
	for _, day := range daysNear(list) {
		what := fmt.Sprint(what, " on ", day)
		force, ok := impl.ActsInForce(list, day)
		expectList(t, "ActsInForce"+what, force, ok, forceIn(list, day), true)
		text, ok := impl.TextOn(base, list, day)
		expectList(t, "TextOn"+what, text, ok, days[day].text, days[day].ok)
		for _, id := range ids {
			want, wantOK := sourceIn(days, list, day, id)
			source, ok := impl.SourceOf(base, list, day, id)
			expect(t, fmt.Sprint("SourceOf", what, " and ", id), source, ok, want, wantOK)
		}
	}
	return broken
}

// checkEnds checks which acts can end on which days, and reports how many can and how many cannot because of a broken day.
func checkEnds(t *testing.T, base []impl.Article, list []impl.Act, days []int64) (ends, breaks int) {
	t.Helper()
	for k := int64(-1); k <= int64(len(list)); k++ {
		for _, day := range days {
			want, wantOK := endedIn(base, list, k, day)
			ended, ok := impl.EndAct(base, list, k, day)
			expectActs(t, fmt.Sprintf("EndAct of %v, %s, act %d and day %d", base, actsText(list), k, day), ended, ok, want, wantOK)
			if ok {
				ends++
			} else if k >= 0 && k < int64(len(list)) && list[k].From < day && day < list[k].Until {
				breaks++
			}
		}
	}
	return ends, breaks
}

func TestSmallHistories(t *testing.T) {
	bases, lists := smallHistories()
	for _, base := range bases {
		for _, list := range lists {
			checkHistory(t, base, list, 0, 1, 2, 3)
			checkEnds(t, base, list, []int64{0, 1, 2, 3, 999, 1000})
		}
	}
}

func TestLargeHistories(t *testing.T) {
	random := rand.New(rand.NewSource(120))
	whole, atBounds, several, ends, breaks := 0, 0, 0, 0, 0
	for range 1000 {
		base, list := randomActs(random)
		broken := checkHistory(t, base, list, 1, 2, 4, 8, 9, 99)
		if len(broken) == 0 && len(list) > 2 {
			whole++
		}
		if len(broken) > 1 {
			several++
		}
		if len(broken) > 0 && (broken[0][0] == 0 || broken[len(broken)-1][1] == impl.MaxDay) {
			atBounds++
		}
		if len(list) < 5 {
			more, others := checkEnds(t, base, list, daysNear(list))
			ends, breaks = ends+more, breaks+others
		}
	}
	if whole < 100 || atBounds < 100 || several < 30 || ends < 1000 || breaks < 500 {
		t.Errorf("only %d histories without broken days, %d with ones at the bounds, %d with several intervals; %d acts that end, and %d that cannot", whole, atBounds, several, ends, breaks)
	}
}

// TestEachDay checks the statute of each day, between those on which acts begin or end, too.
func TestEachDay(t *testing.T) {
	random := rand.New(rand.NewSource(121))
	for range 10 {
		base, list := randomActs(random)
		for day, v := range daysIn(base, list) {
			text, ok := impl.TextOn(base, list, int64(day))
			expectList(t, fmt.Sprintf("TextOn of %v, %s and %d", base, actsText(list), day), text, ok, v.text, v.ok)
		}
	}
}

func TestChangeCases(t *testing.T) {
	for _, c := range []struct {
		base string
		acts []impl.Act
		want string
	}{
		{"", nil, ""}, {"1 a", nil, ""}, {"", acts("3 7 "), ""}, {"", acts("3 7 +1 a"), "3,7"}, {"", acts("0 1000 +1 a"), ""}, {"", acts("0 1 +1 a"), "1"}, {"", acts("999 1000 +1 a"), "999"}, {"", acts("1 1000 +1 a"), "1"},
		{"1 a", acts("0 3 ~1 a|b", "3 6 ~1 a|b", "6 9 ~1 a|c"), "6,9"}, {"1 a", acts("3 6 -1 a", "6 9 -1 a"), "3,9"}, {"1 a", acts("3 6 -1 a", "7 9 -1 a"), "3,6,7,9"},
		{"", acts("3 9 +1 a", "3 9 ~1 a|b"), "3,9"}, {"", acts("3 9 +1 a", "3 9 -1 a"), ""}, {"", acts("3 9 +1 a", "4 9 -1 a"), "3,4"}, {"", acts("3 9 +1 a", "4 8 +2 b"), "3,4,8,9"},
		{"", acts("2 9 +1 a", "5 6 +2 a", "5 7 +3 a", "6 8 +4 a"), "2,5,6,7,8,9"},
	} {
		days, ok := impl.ChangeDays(statute(c.base), c.acts)
		expectList(t, "ChangeDays of "+c.base+" and "+actsText(c.acts), days, ok, numbers(c.want), true)
	}
}

func TestBrokenCases(t *testing.T) {
	for _, c := range []struct {
		base string
		acts []impl.Act
		want [][]int64
	}{
		{"", acts("0 1000 -1 a"), [][]int64{{0, 999}}}, {"", acts("0 1 -1 a"), [][]int64{{0, 0}}}, {"", acts("999 1000 -1 a"), [][]int64{{999, 999}}}, {"", acts("3 7 -1 a"), [][]int64{{3, 6}}},
		{"", acts("3 7 -1 a", "7 9 -1 b"), [][]int64{{3, 8}}}, {"", acts("3 7 -1 a", "8 9 -1 b"), [][]int64{{3, 6}, {8, 8}}}, {"", acts("3 9 -1 a", "4 5 -2 a"), [][]int64{{3, 8}}}, {"", acts("3 5 -1 a", "4 9 -2 a"), [][]int64{{3, 8}}},
		{"1 a", acts("0 5 -1 a", "3 9 ~1 a|b"), [][]int64{{3, 4}}}, {"", acts("0 5 +1 a", "3 9 ~1 a|b"), [][]int64{{5, 8}}}, {"", acts("3 5 +1 a", "4 7 +1 a"), [][]int64{{4, 4}}},
		{"", acts("0 2 -1 a", "5 7 -1 a", "9 1000 -1 a"), [][]int64{{0, 1}, {5, 6}, {9, 999}}}, {"", acts("0 2 -1 a", "1 5 +1 a", "3 9 +1 a"), [][]int64{{0, 1}, {3, 4}}},
		{"1 a;2 a;3 a;4 a;5 a;6 a;7 a;8 a", acts("2 9 +9 a", "4 8 -1 a"), [][]int64{{2, 8}}}, {"1 a;2 a;3 a;4 a;5 a;6 a;7 a;8 a", acts("2 9 -1 a", "4 8 +9 a", "5 6 +1 a"), [][]int64{{5, 5}}},
		// An act is applied before those behind it, so that an edit never fits because of these.
		{"", acts("3 9 -1 a", "3 9 +1 a"), [][]int64{{3, 8}}}, {"", acts("3 9 +1 a", "3 9 -1 a"), nil},
	} {
		what := " of " + c.base + " and " + actsText(c.acts)
		broken, ok := impl.BrokenDays(statute(c.base), c.acts)
		expectLists(t, "BrokenDays"+what, broken, ok, c.want, true)
		if c.want != nil {
			days, ok := impl.ChangeDays(statute(c.base), c.acts)
			expectList(t, "ChangeDays"+what, days, ok, nil, false)
		}
	}
}

func TestSourceCases(t *testing.T) {
	base, list := statute("1 a;2 b;9 z"), acts("3 9 ~1 a|b", "3 7 -2 b;+5 x", "4 6 ~1 b|c;+2 d", "4 1000 ~9 z|y", "5 6 -9 y")
	for _, c := range []struct{ day, id, want int64 }{
		{0, 1, -1}, {2, 2, -1}, {0, 9, -1}, {3, 1, 0}, {3, 5, 1}, {3, 9, -1}, {4, 1, 2}, {4, 2, 2}, {4, 5, 1}, {4, 9, 3}, {5, 1, 2}, {6, 1, 0}, {6, 5, 1}, {6, 9, 3}, {8, 1, 0}, {8, 2, -1}, {9, 1, -1}, {999, 9, 3},
	} {
		source, ok := impl.SourceOf(base, list, c.day, c.id)
		expect(t, fmt.Sprint("SourceOf day ", c.day, " and Id ", c.id), source, ok, c.want, true)
	}
	for _, c := range [][2]int64{{0, 5}, {0, 3}, {3, 2}, {5, 9}, {6, 2}, {9, 5}, {4, 0}, {4, -1}, {4, 99}, {4, 100}, {4, math.MaxInt64}, {4, math.MinInt64}, {4, 1<<32 + 1}} {
		source, ok := impl.SourceOf(base, list, c[0], c[1])
		expect(t, fmt.Sprint("SourceOf day ", c[0], " and Id ", c[1]), source, ok, 0, false)
	}
	source, ok := impl.SourceOf(statute("1 a"), acts("3 9 -2 b"), 3, 1)
	expect(t, "SourceOf a broken day", source, ok, 0, false)
	source, ok = impl.SourceOf(statute("1 a"), acts("3 9 -1 a;+2 b", "3 9 +1 c;-2 b"), 3, 1)
	expect(t, "SourceOf an article that has been dropped and added", source, ok, 1, true)
}

func TestEndCases(t *testing.T) {
	list := acts("3 9 +1 a", "5 8 ~1 a|b", "6 1000 +2 c")
	for _, c := range []struct {
		k, day int64
		want   []impl.Act
	}{
		{0, 8, acts("3 8 +1 a", "5 8 ~1 a|b", "6 1000 +2 c")}, {1, 6, acts("3 9 +1 a", "5 6 ~1 a|b", "6 1000 +2 c")}, {1, 7, acts("3 9 +1 a", "5 7 ~1 a|b", "6 1000 +2 c")},
		{2, 7, acts("3 9 +1 a", "5 8 ~1 a|b", "6 7 +2 c")}, {2, 999, acts("3 9 +1 a", "5 8 ~1 a|b", "6 999 +2 c")},
	} {
		ended, ok := impl.EndAct(nil, list, c.k, c.day)
		expectActs(t, fmt.Sprint("EndAct ", c.k, " on ", c.day), ended, ok, c.want, true)
	}
	for _, c := range [][2]int64{
		{0, 0}, {0, 2}, {0, 3}, {0, 4}, {0, 5}, {0, 6}, {0, 7}, {0, 9}, {0, 10}, {1, 5}, {1, 8}, {1, 9}, {2, 6}, {2, 1000}, {2, 1001}, {2, 0}, {-1, 7}, {3, 7}, {math.MaxInt64, 7}, {math.MinInt64, 7}, {1 << 32, 8},
		{0, math.MaxInt64}, {0, math.MinInt64}, {1, 1<<32 + 6},
	} {
		ended, ok := impl.EndAct(nil, list, c[0], c[1])
		expectActs(t, fmt.Sprint("EndAct ", c[0], " on ", c[1]), ended, ok, nil, false)
	}
	ended, ok := impl.EndAct(statute("1 b"), list, 2, 7)
	expectActs(t, "EndAct with broken days all the time", ended, ok, nil, false)
	ended, ok = impl.EndAct(nil, acts("0 9 -1 a", "3 9 +2 b"), 1, 5)
	expectActs(t, "EndAct with a day that has been broken before", ended, ok, nil, false)
	ended, ok = impl.EndAct(nil, acts("3 9 -1 a", "3 4 +2 b"), 0, 4)
	expectActs(t, "EndAct of a day that is broken still", ended, ok, nil, false)
	// The end of an act may also mend days.
	ended, ok = impl.EndAct(nil, acts("2 9 +1 a", "5 6 +1 b"), 0, 5)
	expectActs(t, "EndAct before a broken day", ended, ok, acts("2 5 +1 a", "5 6 +1 b"), true)
}

// TestLeftOutActs checks that acts that are no longer in force leave no trace.
func TestLeftOutActs(t *testing.T) {
	random := rand.New(rand.NewSource(122))
	for range 100 {
		base, list := randomActs(random)
		for _, day := range daysNear(list) {
			force, _ := impl.ActsInForce(list, day)
			var made []impl.Act
			for _, k := range force {
				made = append(made, list[k])
			}
			text, ok := impl.TextOn(base, list, day)
			want, wantOK := impl.TextOn(base, made, day)
			expectList(t, fmt.Sprintf("TextOn of %v and %s on %d", base, actsText(list), day), text, ok, want, wantOK)
		}
	}
}
