package tests

import (
	"cmp"
	"fmt"
	"math"
	"math/rand"
	"slices"
	"strings"
	"testing"

	"loop.example/g01095/impl"
)

// acts writes each act as From, Until and a patch, separated by blanks.
func acts(texts ...string) []impl.Act {
	var list []impl.Act
	for _, text := range texts {
		words := strings.SplitN(text, " ", 3)
		list = append(list, impl.Act{From: integer(words[0]), Until: integer(words[1]), Patch: patch(words[2])})
	}
	return list
}

func actsText(list []impl.Act) string {
	var texts []string
	for _, act := range list {
		texts = append(texts, fmt.Sprint(act.From, " ", act.Until, " ", brief(patchText(act.Patch))))
	}
	return fmt.Sprintf("%q", texts)
}

func sameActs(a, b []impl.Act) bool {
	return slices.EqualFunc(a, b, func(x, y impl.Act) bool {
		return x.From == y.From && x.Until == y.Until && samePatch(x.Patch, y.Patch)
	})
}

// expectActs is expect for acts.
func expectActs(t *testing.T, what string, got []impl.Act, ok bool, want []impl.Act, wantOK bool) {
	t.Helper()
	if !sameActs(got, want) || ok != wantOK {
		t.Errorf("%s: got %s, %v, want %s, %v", what, actsText(got), ok, actsText(want), wantOK)
	}
}

// versionIn is the statute of a day, or none if the day is broken.
type versionIn struct {
	text []impl.Article
	ok   bool
}

// forceIn returns the indices of the acts in force on a day.
func forceIn(list []impl.Act, day int64) []int64 {
	var force []int64
	for k, act := range list {
		if act.From <= day && act.Until > day {
			force = append(force, int64(k))
		}
	}
	return force
}

// textIn applies the patches of the acts in force on a day.
func textIn(base []impl.Article, list []impl.Act, day int64) versionIn {
	v := versionIn{base, true}
	for _, k := range forceIn(list, day) {
		if v.ok {
			v.text, v.ok = applyIn(v.text, list[k].Patch)
		}
	}
	return v
}

// daysIn returns the statute of each day.
func daysIn(base []impl.Article, list []impl.Act) []versionIn {
	known := map[string]versionIn{}
	var days []versionIn
	for day := range int64(impl.MaxDay + 1) {
		name := fmt.Sprint(forceIn(list, day))
		if _, ok := known[name]; !ok {
			known[name] = textIn(base, list, day)
		}
		days = append(days, known[name])
	}
	return days
}

// brokenIn returns the longest intervals of broken days.
func brokenIn(days []versionIn) [][]int64 {
	var broken [][]int64
	for day, v := range days {
		if v.ok {
			continue
		}
		if day == 0 || days[day-1].ok {
			broken = append(broken, []int64{int64(day), 0})
		}
		broken[len(broken)-1][1] = int64(day)
	}
	return broken
}

// changesIn returns the days on which the text changes, and false if a day is broken.
func changesIn(days []versionIn) ([]int64, bool) {
	if brokenIn(days) != nil {
		return nil, false
	}
	var changes []int64
	for day, v := range days {
		if day > 0 && !slices.Equal(v.text, days[day-1].text) {
			changes = append(changes, int64(day))
		}
	}
	return changes, true
}

// sourceIn returns the last act in force that has touched an article.
func sourceIn(days []versionIn, list []impl.Act, day, id int64) (int64, bool) {
	if !days[day].ok || !slices.ContainsFunc(days[day].text, func(a impl.Article) bool { return a.Id == id }) {
		return 0, false
	}
	source := int64(-1)
	for _, k := range forceIn(list, day) {
		if _, ok := editAt(list[k].Patch, id); ok {
			source = k
		}
	}
	return source, true
}

// endedIn returns the acts of which act k ends on a day, and false if it cannot.
func endedIn(base []impl.Article, list []impl.Act, k, day int64) ([]impl.Act, bool) {
	if k < 0 || k >= int64(len(list)) || day <= list[k].From || day >= list[k].Until {
		return nil, false
	}
	ended := slices.Clone(list)
	ended[k].Until = day
	if brokenIn(daysIn(base, ended)) != nil {
		return nil, false
	}
	return ended, true
}

// randomActs returns a history whose acts touch few articles, with days near one another or at the bounds.
func randomActs(random *rand.Rand) ([]impl.Article, []impl.Act) {
	bases := []string{"", "1 a", "1 a;2 b", "1 a;2 a;3 a;4 a;5 a;6 a;7 a"}
	base := statute(bases[random.Intn(len(bases))])
	days := []int64{0, 1, 2, 3, 5, 8, 9, 10, 500, 998, 999, 1000}
	var list []impl.Act
	for range random.Intn(impl.MaxActs + 1) {
		from, last := random.Intn(len(days)-1), len(days)-1
		until := min(from+1+random.Intn([]int{1, 3, last}[random.Intn(3)]), last)
		list = append(list, impl.Act{From: days[from], Until: days[until]})
	}
	slices.SortStableFunc(list, func(a, b impl.Act) int { return cmp.Compare(a.From, b.From) })
	for k, act := range list {
		// Most patches are made for the statute of the first day of their acts, without those behind these.
		s := textIn(base, list[:k], act.From).text
		if random.Intn(4) == 0 {
			s = base
		}
		ids := randomSet(random, 4, 1+random.Int63n(2))
		for i, id := range ids {
			ids[i] = []int64{1, 2, 8, 9}[id]
		}
		list[k].Patch = patchAt(random, ids, s)
	}
	return base, list
}

// invalidActs are lists that break one bound each.
func invalidActs() map[string][]impl.Act {
	list := map[string][]impl.Act{
		"one act too many":   slices.Repeat([]impl.Act{{From: 1, Until: 2}}, impl.MaxActs+1),
		"the least From":     {{From: math.MinInt64, Until: 1}},
		"the greatest Until": {{From: 0, Until: math.MaxInt64}},
		"the least Until":    {{From: 0, Until: math.MinInt64}},
	}
	for _, days := range []string{"-1 5", "0 0", "5 5", "6 5", "5 4", "0 1001", "999 1001", "1000 1000", "1000 1001", "1001 1002", "0 -1", "-2 -1", "1 0"} {
		list["days "+days] = acts(days + " +1 a")
		list["last days "+days] = append(acts("0 1000 +2 a"), acts(days+" +1 a")...)
	}
	for _, days := range []string{"6 9,5 9", "1 2,0 2", "0 1,5 6,4 6", "999 1000,998 999"} {
		var both []string
		for _, one := range strings.Split(days, ",") {
			both = append(both, one+" +1 a")
		}
		list["days "+days] = acts(both...)
	}
	for name, p := range invalidPatches() {
		list["the patch "+name] = []impl.Act{{From: 0, Until: 9, Patch: p}}
		list["the second patch "+name] = []impl.Act{{From: 0, Until: 9, Patch: patch("+1 a")}, {From: 1, Until: 9, Patch: p}}
	}
	return list
}
