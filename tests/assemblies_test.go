package tests

import (
	"fmt"
	"math"
	"math/rand"
	"slices"
	"testing"

	"loop.example/g01095/impl"
)

func checkAssembly(t *testing.T, what string, a impl.Assembly, want bool) {
	t.Helper()
	if got := impl.ValidAssembly(a); got != want {
		t.Errorf("%s: ValidAssembly of %+v is %v", what, a, got)
	}
	if got := impl.SameAssembly(a, roomy(a)); got != want {
		t.Errorf("%s: SameAssembly of %+v and itself is %v", what, a, got)
	}
}

func TestNewAssembly(t *testing.T) {
	bases := [][]impl.Article{nil, {}, statute("1 a"), statute("1 a;2 b;3 c;4 d;5 e;6 f;7 g;99 h")}
	for members := int64(1); members <= impl.MaxMembers; members++ {
		for _, rule := range rules() {
			for _, base := range bases {
				what := fmt.Sprint("NewAssembly ", members, rule, base)
				a, ok := impl.NewAssembly(members, rule, base)
				expectAssembly(t, what, a, ok, impl.Assembly{Rule: rule, Trust: make([][]int64, members), Base: base}, true)
				checkAssembly(t, what, a, true)
			}
		}
	}
}

func TestNewAssemblyRefuses(t *testing.T) {
	refused := func(members, rule int64, base []impl.Article) {
		t.Helper()
		a, ok := impl.NewAssembly(members, rule, base)
		expectAssembly(t, fmt.Sprint("NewAssembly ", members, rule, base), a, ok, impl.Assembly{}, false)
	}
	for _, members := range []int64{0, -1, -12, 13, 14, 1 << 32, 1<<32 + 1, 1 << 62, math.MaxInt64, math.MinInt64} {
		refused(members, impl.RuleBreadth, nil)
		refused(members, impl.RuleDepth, statute("1 a"))
	}
	for _, rule := range []int64{-1, 3, 4, 1 << 32, math.MaxInt64, math.MinInt64} {
		refused(1, rule, nil)
		refused(12, rule, statute("1 a"))
	}
	for _, base := range invalidStatutes() {
		refused(1, impl.RuleSum, base)
	}
}

func TestValidAssembly(t *testing.T) {
	for name, a := range map[string]impl.Assembly{
		"one member":                         assembly("-"),
		"MaxMembers":                         assembly("- - - - - - - - - - - -"),
		"MaxTrust":                           assembly("- - - - -0,1,2,3"),
		"trust in one another":               assembly("-1,2 -2,0 -1,0"),
		"as much as there can be":            fullAssembly(),
		"empty lists":                        {Trust: [][]int64{{}}, Base: []impl.Article{}, Acts: []impl.Act{}, Motions: []impl.Motion{}},
		"a base and no acts":                 under(assembly("-"), "1 a;99 b", nil),
		"acts without edits":                 under(assembly("-"), "", acts("0 1 ", "999 1000 ")),
		"an act that has not been adopted":   under(assembly("-", "park . 1 1 2 +1 a"), "", acts("0 1000 +1 a")),
		"an act that cannot be entered":      under(assembly("-", "park . 1 1 2 -1 a"), "", nil),
		"MaxActs":                            under(assembly("-"), "", slices.Repeat(acts("0 1000 "), impl.MaxActs)),
		"MaxMotions":                         assembly("-", "a . 1 1 2 +1 a", "b y 1 1 2 +1 a", "c n 1 1 2 +1 a", "d b 1 1 2 +1 a", "e . 1 1 2 +1 a", "f . 1 1 2 +1 a"),
		"the same motion with another Title": assembly("-", "park . 1 1 2 +1 a", "parks . 1 1 2 +1 a"),
		"MaxEdits":                           assembly("-", "park . 1 1 2 "+brief(patchText(addAll(84, impl.MaxEdits)))),
	} {
		checkAssembly(t, name, a, true)
		for _, rule := range rules() {
			checkAssembly(t, name, changed(a, func(a *impl.Assembly) { a.Rule = rule }), true)
		}
	}
	for day := range int64(impl.MaxDay + 1) {
		a := assembly("- -")
		a.Day = day
		checkAssembly(t, "a day", a, true)
	}
	for name, a := range invalidAssemblies() {
		checkAssembly(t, name, a, false)
	}
}

func TestValidMotions(t *testing.T) {
	a := assembly("-1,2 - -0", "park ynb 5 7 9 +1 a")
	check := func(what string, a impl.Assembly) { checkAssembly(t, what, a, isAssemblyIn(a)) }
	days := []int64{math.MinInt64, -1, 0, 1, 2, 7, 998, 999, 1000, 1001, math.MaxInt64}
	for _, closes := range days {
		for _, from := range days {
			for _, until := range days {
				for _, today := range []int64{0, 1, 2, 6, 7, 8, 999} {
					for result := int64(-1); result <= 5; result++ {
						m := decided(a.Motions[0], result)
						m.Closes, m.From, m.Until = closes, from, until
						check("days and a Result", impl.Assembly{Day: today, Trust: a.Trust, Motions: []impl.Motion{m}})
					}
				}
			}
		}
	}
	for _, days := range proposedDays() {
		valid := changed(a, func(a *impl.Assembly) {
			m := &a.Motions[0]
			m.Closes, m.From, m.Until = days[0], days[1], days[2]
		})
		checkAssembly(t, fmt.Sprint("the days ", days), valid, true)
	}
	for author := int64(-2); author <= 14; author++ {
		check("an Author", changed(a, func(a *impl.Assembly) { a.Motions[0].Author = author }))
	}
	for vote := int64(-2); vote <= 6; vote++ {
		check("a vote", changed(a, func(a *impl.Assembly) { a.Motions[0].Votes[1] = vote }))
	}
	for votes := range 15 {
		check("votes", changed(a, func(a *impl.Assembly) { a.Motions[0].Votes = make([]int64, votes) }))
	}
}

// anyNumber returns one at or beyond some bound.
func anyNumber(random *rand.Rand) int64 {
	list := []int64{-1, 0, 1, 2, 3, 4, 5, 6, 9, 11, 12, 13, 998, 999, 1000, 1001, math.MaxInt64, math.MinInt64}
	return list[random.Intn(len(list))]
}

// changeOne changes one field of an assembly, or of one of its parts.
func changeOne(random *rand.Rand, a *impl.Assembly) {
	numbers := []*int64{&a.Day, &a.Rule}
	for _, trust := range a.Trust {
		for i := range trust {
			numbers = append(numbers, &trust[i])
		}
	}
	for k := range a.Acts {
		numbers = append(numbers, &a.Acts[k].From, &a.Acts[k].Until)
	}
	for k := range a.Motions {
		m := &a.Motions[k]
		numbers = append(numbers, &m.Author, &m.From, &m.Until, &m.Closes, &m.Votes[0], &m.Votes[len(m.Votes)-1], &m.Result)
	}
	switch random.Intn(12) {
	case 0:
		a.Trust = append(a.Trust, nil)
	case 1:
		member := random.Intn(len(a.Trust))
		a.Trust[member] = append(a.Trust[member], random.Int63n(int64(len(a.Trust))))
	case 2:
		a.Acts = a.Acts[:random.Intn(len(a.Acts)+1)]
	case 3:
		a.Motions = append(a.Motions, motion("new "+voteSigns[:1]+" 999 999 1000 +1 a"))
	default:
		*numbers[random.Intn(len(numbers))] = anyNumber(random)
	}
}

func TestValidAssembliesWithOneChange(t *testing.T) {
	random := rand.New(rand.NewSource(300))
	valid, invalid := 0, 0
	for _, a := range randomAssemblies(301, 300, 60) {
		checkAssembly(t, "a random assembly", a, true)
		for range 20 {
			b := changed(a, func(b *impl.Assembly) { changeOne(random, b) })
			want := isAssemblyIn(b)
			checkAssembly(t, "a random assembly with a change", b, want)
			if same, isEqual := impl.SameAssembly(a, b), assemblyText(a) == assemblyText(b); same != isEqual || same != impl.SameAssembly(b, a) {
				t.Errorf("SameAssembly of %+v and %+v is %v", a, b, same)
			}
			if want && assemblyText(a) != assemblyText(b) {
				valid++
			} else if !want {
				invalid++
			}
		}
	}
	if valid < 500 || invalid < 2000 {
		t.Errorf("only %d valid changes and %d invalid ones", valid, invalid)
	}
}

// oneChangeEach returns valid assemblies that differ from the first one in one field each.
func oneChangeEach() map[string]impl.Assembly {
	a := under(assembly("-1,2 - -0", "park ynb 1 6 9 +1 a;~5 z|y", "tax ... 4 5 9 +1 a"), "5 z;7 q", acts("5 9 +2 a;+3 b", "6 20 "))
	a.Day, a.Rule, a.Motions[0] = 2, impl.RuleSum, decided(a.Motions[0], impl.MotionRejected)
	list := map[string]impl.Assembly{"nothing": a}
	for name, change := range map[string]func(a *impl.Assembly){
		"Day":                 func(a *impl.Assembly) { a.Day = 3 },
		"Rule":                func(a *impl.Assembly) { a.Rule = impl.RuleDepth },
		"a number in Trust":   func(a *impl.Assembly) { a.Trust[2][0] = 1 },
		"the order in Trust":  func(a *impl.Assembly) { a.Trust[0] = numbers("2,1") },
		"less Trust":          func(a *impl.Assembly) { a.Trust[0] = numbers("1") },
		"more Trust":          func(a *impl.Assembly) { a.Trust[1] = numbers("0") },
		"Trust exchanged":     func(a *impl.Assembly) { a.Trust[1], a.Trust[2] = numbers("0"), nil },
		"an Id":               func(a *impl.Assembly) { a.Base[1].Id = 8 },
		"a Text":              func(a *impl.Assembly) { a.Base[1].Text = "r" },
		"fewer articles":      func(a *impl.Assembly) { a.Base = a.Base[:1] },
		"an act's From":       func(a *impl.Assembly) { a.Acts[0].From = 4 },
		"an act's Until":      func(a *impl.Assembly) { a.Acts[0].Until = 10 },
		"an act's Kind":       func(a *impl.Assembly) { a.Acts[0].Patch = patch("+3 b;-5 z") },
		"an act's New":        func(a *impl.Assembly) { a.Acts[0].Patch[0].New = "b" },
		"an act's Id":         func(a *impl.Assembly) { a.Acts[0].Patch[1].Id = 4 },
		"an act's edits":      func(a *impl.Assembly) { a.Acts[0].Patch = a.Acts[0].Patch[:1] },
		"the second act":      func(a *impl.Assembly) { a.Acts[1].Until = 21 },
		"fewer acts":          func(a *impl.Assembly) { a.Acts = a.Acts[:1] },
		"a Title":             func(a *impl.Assembly) { a.Motions[0].Title = "parks" },
		"an Author":           func(a *impl.Assembly) { a.Motions[0].Author = 1 },
		"a motion's Old":      func(a *impl.Assembly) { a.Motions[0].Patch[1].Old = "x" },
		"a motion's New":      func(a *impl.Assembly) { a.Motions[0].Patch[1].New = "x" },
		"a motion's edits":    func(a *impl.Assembly) { a.Motions[0].Patch = a.Motions[0].Patch[:1] },
		"a motion's From":     func(a *impl.Assembly) { a.Motions[0].From = 7 },
		"a motion's Until":    func(a *impl.Assembly) { a.Motions[0].Until = 10 },
		"a motion's Closes":   func(a *impl.Assembly) { a.Motions[0].Closes = 2 },
		"a vote":              func(a *impl.Assembly) { a.Motions[0].Votes[2] = impl.VoteYes },
		"a Result":            func(a *impl.Assembly) { a.Motions[0].Result = impl.MotionVoid },
		"another Result":      func(a *impl.Assembly) { a.Motions[0].Result = impl.MotionAdopted },
		"the second motion":   func(a *impl.Assembly) { a.Motions[1].Votes[0] = impl.VoteNo },
		"motions exchanged":   func(a *impl.Assembly) { slices.Reverse(a.Motions) },
		"fewer motions":       func(a *impl.Assembly) { a.Motions = a.Motions[:1] },
		"no acts and motions": func(a *impl.Assembly) { a.Acts, a.Motions = nil, nil },
		"more motions":        func(a *impl.Assembly) { a.Motions = append(a.Motions, motion("x ... 9 9 10 +1 a")) },
		"members and no rest": func(a *impl.Assembly) { *a = assembly("- - - -") },
		"fewer members":       func(a *impl.Assembly) { *a = assembly("- - -") },
	} {
		list[name] = changed(a, change)
	}
	return list
}

func TestSameAssembly(t *testing.T) {
	list := oneChangeEach()
	for one, a := range list {
		checkAssembly(t, one, a, true)
		for other, b := range list {
			if got := impl.SameAssembly(a, b); got != (one == other) {
				t.Errorf("SameAssembly with changes of %s and %s is %v", one, other, got)
			}
		}
	}
	for name, a := range invalidAssemblies() {
		if impl.SameAssembly(a, a) || impl.SameAssembly(list["nothing"], a) || impl.SameAssembly(a, list["nothing"]) {
			t.Errorf("SameAssembly is true for %s", name)
		}
	}
	empty := impl.Assembly{Trust: [][]int64{{}, {}}, Base: []impl.Article{}, Acts: []impl.Act{}, Motions: []impl.Motion{}}
	if !impl.SameAssembly(empty, assembly("- -")) || !impl.SameAssembly(assembly("- -"), empty) {
		t.Error("SameAssembly tells nil from empty lists")
	}
}
