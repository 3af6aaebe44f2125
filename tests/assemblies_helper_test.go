package tests

import (
	"fmt"
	"math"
	"math/rand"
	"regexp"
	"slices"
	"strings"
	"testing"

	"loop.example/g01095/impl"
)

// voteSigns has a sign for each vote on a motion, in the order of their numbers.
const voteSigns = ".ynb"

func motionVotes(signs string) []int64 {
	var votes []int64
	for _, sign := range signs {
		votes = append(votes, int64(strings.IndexRune(voteSigns, sign)))
	}
	return votes
}

// motion writes an open motion of member 0 as its Title, the signs of its votes, Closes, From, Until and a patch, separated by blanks.
func motion(text string) impl.Motion {
	words := strings.SplitN(text, " ", 6)
	return impl.Motion{Title: words[0], Votes: motionVotes(words[1]), Closes: integer(words[2]), From: integer(words[3]), Until: integer(words[4]), Patch: patch(words[5])}
}

// decided returns the motion with a result.
func decided(m impl.Motion, result int64) impl.Motion {
	m.Result = result
	return m
}

// assembly writes one on day 0, with RuleBreadth and neither base nor acts, as the voices of its members and its motions.
func assembly(members string, motions ...string) impl.Assembly {
	a := impl.Assembly{}
	for _, voice := range voices(members) {
		a.Trust = append(a.Trust, voice.Trust)
	}
	for _, text := range motions {
		a.Motions = append(a.Motions, motion(text))
	}
	return a
}

// changed returns a copy of an assembly that has been changed.
func changed(a impl.Assembly, change func(a *impl.Assembly)) impl.Assembly {
	a = roomy(a)
	change(&a)
	return a
}

// under returns the assembly with a base and acts.
func under(a impl.Assembly, base string, list []impl.Act) impl.Assembly {
	return changed(a, func(a *impl.Assembly) { a.Base, a.Acts = statute(base), list })
}

func assemblyText(a impl.Assembly) string { return fmt.Sprintf("%+v", a) }

// expectAssembly is expect for assemblies.
func expectAssembly(t *testing.T, what string, got impl.Assembly, ok bool, want impl.Assembly, wantOK bool) {
	t.Helper()
	if assemblyText(got) != assemblyText(want) || ok != wantOK {
		t.Errorf("%s: got %+v, %v, want %+v, %v", what, got, ok, want, wantOK)
	}
}

// expectVoices is expect for lists of voices.
func expectVoices(t *testing.T, what string, got []impl.Voice, ok bool, want []impl.Voice, wantOK bool) {
	t.Helper()
	if !sameVoices(got, want) || ok != wantOK {
		t.Errorf("%s: got %q, %v, want %q, %v", what, textOf(got), ok, textOf(want), wantOK)
	}
}

// voicesIn are the voices of the members if they have some votes.
func voicesIn(a impl.Assembly, votes []int64) []impl.Voice {
	var list []impl.Voice
	for member, trust := range a.Trust {
		list = append(list, impl.Voice{Speaks: votes[member] != impl.VoteNone, Trust: trust})
	}
	return list
}

// endsIn returns with whom each ballot is settled, or -1.
func endsIn(a impl.Assembly, votes []int64) []int64 {
	list := voicesIn(a, votes)
	ends := make([]int64, len(list))
	for member := range list {
		ends[member] = -1
		if path := bestWalk(list, a.Rule, int64(member)); path != nil {
			ends[member] = path[len(path)-1]
		}
	}
	return ends
}

// settledFor returns the members whose ballots are settled with one who has a vote.
func settledFor(a impl.Assembly, votes []int64, vote int64) []int64 {
	var members []int64
	for member, end := range endsIn(a, votes) {
		if end >= 0 && votes[end] == vote {
			members = append(members, int64(member))
		}
	}
	return members
}

// ballotsIn returns how many ballots are settled with members who vote no, yes and blank, and how many are lost.
func ballotsIn(a impl.Assembly, votes []int64) []int64 {
	count := make([]int64, 4)
	for _, end := range endsIn(a, votes) {
		place := 3
		if end >= 0 {
			place = slices.Index([]int64{impl.VoteNo, impl.VoteYes, impl.VoteBlank}, votes[end])
		}
		count[place]++
	}
	return count
}

// leadersIn returns the members with whom most ballots are settled.
func leadersIn(a impl.Assembly, votes []int64) []int64 {
	settled := make([]int64, len(votes))
	for _, end := range endsIn(a, votes) {
		if end >= 0 {
			settled[end]++
		}
	}
	var leaders []int64
	for member, count := range settled {
		if count > 0 && count == slices.Max(settled) {
			leaders = append(leaders, int64(member))
		}
	}
	return leaders
}

// isWholeIn reports whether no day is broken.
func isWholeIn(base []impl.Article, list []impl.Act) bool {
	known := map[int]bool{}
	for day := range int64(impl.MaxDay + 1) {
		force := 0
		for k, act := range list {
			if act.From <= day && act.Until > day {
				force |= 1 << k
			}
		}
		if !known[force] && !textIn(base, list, day).ok {
			return false
		}
		known[force] = true
	}
	return true
}

// enterIn puts an act behind all whose From is not greater, and returns false if it cannot be entered.
func enterIn(a impl.Assembly, act impl.Act) ([]impl.Act, bool) {
	place := 0
	for place < len(a.Acts) && a.Acts[place].From <= act.From {
		place++
	}
	list := slices.Insert(slices.Clone(a.Acts), place, act)
	return list, len(a.Acts) < impl.MaxActs && isWholeIn(a.Base, list)
}

// verdictIn is the result of a motion that is decided now with some votes.
func verdictIn(a impl.Assembly, m impl.Motion, votes []int64) int64 {
	count := ballotsIn(a, votes)
	no, yes, blank := count[0], count[1], count[2]
	if (no+yes+blank)*2 < int64(len(a.Trust)) {
		return impl.MotionVoid
	}
	if yes <= no {
		return impl.MotionRejected
	}
	if _, ok := enterIn(a, impl.Act{From: m.From, Until: m.Until, Patch: m.Patch}); !ok {
		return impl.MotionBroken
	}
	return impl.MotionAdopted
}

// silencedIn returns votes without the one of a member.
func silencedIn(votes []int64, member int64) []int64 {
	votes = slices.Clone(votes)
	votes[member] = impl.VoteNone
	return votes
}

// swingIn returns the members without whose vote a motion has another result.
func swingIn(a impl.Assembly, m impl.Motion) []int64 {
	var members []int64
	for member, vote := range m.Votes {
		if vote != impl.VoteNone && verdictIn(a, m, silencedIn(m.Votes, int64(member))) != verdictIn(a, m, m.Votes) {
			members = append(members, int64(member))
		}
	}
	return members
}

var name = regexp.MustCompile(`\A[a-z]{1,10}\z`)

// isTrustIn reports whether one of so many members can trust some others.
func isTrustIn(members, member int64, trust []int64) bool {
	for i, other := range trust {
		if other < 0 || other >= members || other == member || slices.Contains(trust[:i], other) {
			return false
		}
	}
	return member >= 0 && member < members && len(trust) <= impl.MaxTrust
}

// isActIn reports whether a patch can take effect on a day, not before another one, and before a third one.
func isActIn(p []impl.Edit, closes, from, until int64) bool {
	return len(p) > 0 && impl.ValidPatch(p) && closes >= 1 && closes <= impl.MaxDay && from >= closes && from < until && until <= impl.MaxDay+1
}

func isMotionIn(a impl.Assembly, m impl.Motion) bool {
	for _, vote := range m.Votes {
		if vote < impl.VoteNone || vote > impl.VoteBlank {
			return false
		}
	}
	members := int64(len(a.Trust))
	isOpen := m.Result == impl.MotionOpen
	return name.MatchString(m.Title) && m.Author >= 0 && m.Author < members && isActIn(m.Patch, m.Closes, m.From, m.Until) && int64(len(m.Votes)) == members &&
		m.Result >= impl.MotionOpen && m.Result <= impl.MotionBroken && isOpen == (m.Closes > a.Day)
}

// isAssemblyIn goes through the conditions for an assembly.
func isAssemblyIn(a impl.Assembly) bool {
	if a.Day < 0 || a.Day > impl.MaxDay || !slices.Contains(rules(), a.Rule) || len(a.Trust) < 1 || len(a.Trust) > impl.MaxMembers || len(a.Motions) > impl.MaxMotions {
		return false
	}
	for member, trust := range a.Trust {
		if !isTrustIn(int64(len(a.Trust)), int64(member), trust) {
			return false
		}
	}
	titles := map[string]bool{}
	for _, m := range a.Motions {
		if titles[m.Title] || !isMotionIn(a, m) {
			return false
		}
		titles[m.Title] = true
	}
	return impl.ValidStatute(a.Base) && impl.ValidActs(a.Acts) && isWholeIn(a.Base, a.Acts)
}

// titles are names for motions, as many as there can be and one more.
func titles() []string {
	return []string{"park", "tax", "a", "z", "abcdefghij", "zzzzzzzzzz", "taxes"}
}

// randomVotes returns votes of which one of so many is none.
func randomVotes(random *rand.Rand, members, silent int) []int64 {
	votes := make([]int64, members)
	for i := range votes {
		if random.Intn(silent) > 0 {
			votes[i] = 1 + random.Int63n(impl.VoteBlank)
		}
	}
	return votes
}

// randomProposal returns a motion that closes near a day, with a patch that is made for the statute of its first day.
func randomProposal(random *rand.Rand, a impl.Assembly, title string) impl.Motion {
	m := impl.Motion{Title: title, Author: random.Int63n(int64(len(a.Trust)))}
	m.Closes = min(max(1, a.Day+random.Int63n(7)-2), impl.MaxDay)
	m.From = min(m.Closes+[]int64{0, 0, 1, 3, 20}[random.Intn(5)], impl.MaxDay)
	m.Until = min(m.From+[]int64{1, 2, 5, 2000}[random.Intn(4)], impl.MaxDay+1)
	ids := randomSet(random, 4, 1+random.Int63n(2))
	for i, id := range ids {
		ids[i] = []int64{1, 2, 8, 9}[id]
	}
	m.Patch = patchAt(random, ids, textIn(a.Base, a.Acts, m.From).text)
	return m
}

// randomAssembly returns a valid one with so many members.
func randomAssembly(random *rand.Rand, members int) impl.Assembly {
	a := impl.Assembly{Day: []int64{0, 1, 3, 8, 500, 998, 999}[random.Intn(7)], Rule: random.Int63n(3)}
	for _, voice := range randomVoices(random, members, 2) {
		a.Trust = append(a.Trust, voice.Trust)
	}
	base, list := randomActs(random)
	a.Base = base
	for _, act := range list {
		if entered, ok := enterIn(a, act); ok {
			a.Acts = entered
		}
	}
	for i := range random.Intn(impl.MaxMotions + 1) {
		m := randomProposal(random, a, titles()[i])
		m.Votes = randomVotes(random, members, 1+random.Intn(6))
		if m.Closes <= a.Day {
			m.Result = 1 + random.Int63n(impl.MotionBroken)
		}
		a.Motions = append(a.Motions, m)
	}
	random.Shuffle(len(a.Motions), func(i, k int) { a.Motions[i], a.Motions[k] = a.Motions[k], a.Motions[i] })
	return a
}

// randomAssemblies returns many with few members, and some with any number of them.
func randomAssemblies(seed int64, few, any int) []impl.Assembly {
	random := rand.New(rand.NewSource(seed))
	var list []impl.Assembly
	for i := range few + any {
		members := 1 + random.Intn(6)
		if i >= few {
			members = 1 + random.Intn(impl.MaxMembers)
		}
		list = append(list, randomAssembly(random, members))
	}
	return list
}

// fullAssembly has as much of everything as there can be.
func fullAssembly() impl.Assembly {
	a := impl.Assembly{Day: 5, Rule: impl.RuleDepth, Base: statute("21 a;22 b;23 c;24 d;25 e;26 f;27 g;28 h")}
	for _, voice := range voices(longest) {
		a.Trust = append(a.Trust, voice.Trust)
	}
	for k := range int64(impl.MaxActs) {
		a.Acts = append(a.Acts, acts(fmt.Sprint(k, " 1000 ~21 a|b"))...)
		if k > 0 {
			a.Acts[k].Patch = patch(fmt.Sprint("~2", k+1, " ", string(rune('a'+k)), "|z"))
		}
	}
	for k, title := range titles()[:impl.MaxMotions] {
		m := motion(fmt.Sprint(title, " ynbynbynb... ", k+3, " ", k+3, " 1000 +1 a"))
		m.Author, m.Patch = int64(11-k), addAll(int64(k+1), impl.MaxEdits)
		if m.Closes <= a.Day {
			m.Result = int64(1 + k)
		}
		a.Motions = append(a.Motions, m)
	}
	return a
}

// invalidAssemblies break one condition each.
func invalidAssemblies() map[string]impl.Assembly {
	valid := under(assembly("-1,2 - -0", "park yn. 1 2 9 +1 a", "tax .b. 3 3 1000 -5 z"), "5 z", acts("4 9 +6 a", "4 1000 +7 a"))
	list := map[string]impl.Assembly{"no fields": {}}
	add := func(name string, change func(a *impl.Assembly)) { list[name] = changed(valid, change) }
	for _, n := range []int64{-1, 1000, 1001, 1 << 32, math.MaxInt64, math.MinInt64} {
		add(fmt.Sprint("the day ", n), func(a *impl.Assembly) {
			a.Day = n
			for i := range a.Motions {
				if a.Motions[i].Closes <= n {
					a.Motions[i].Result = impl.MotionRejected
				}
			}
		})
	}
	for _, n := range []int64{-1, 3, 4, 1 << 32, math.MaxInt64, math.MinInt64} {
		add(fmt.Sprint("the rule ", n), func(a *impl.Assembly) { a.Rule = n })
	}
	for _, members := range []int{0, 2, 4, 13, 1000} {
		add(fmt.Sprint("votes of three and as many members: ", members), func(a *impl.Assembly) { a.Trust = make([][]int64, members) })
	}
	for _, members := range []int{0, 13, 1000} {
		add(fmt.Sprint("too few or too many members: ", members), func(a *impl.Assembly) { a.Trust, a.Motions = make([][]int64, members), nil })
	}
	for _, trust := range []string{"0", "1,0", "1,1", "1,2,1", "3", "-1", "1,2,3", "1,2,12", "4294967297", "-9223372036854775808"} {
		add("the first trusts "+trust, func(a *impl.Assembly) { a.Trust[0] = numbers(trust) })
	}
	add("the last trusts itself", func(a *impl.Assembly) { a.Trust[2] = numbers("0,2") })
	add("MaxTrust and one more", func(a *impl.Assembly) { *a = assembly("- - - - - -0,1,2,3,4") })
	addInvalidStatutes(add)
	addInvalidMotions(add)
	return list
}

func addInvalidStatutes(add func(name string, change func(a *impl.Assembly))) {
	for name, base := range invalidStatutes() {
		add("the base "+name, func(a *impl.Assembly) { a.Base, a.Acts = base, nil })
	}
	for name, list := range invalidActs() {
		add("acts with "+name, func(a *impl.Assembly) { a.Acts = list })
	}
	for name, list := range map[string][]impl.Act{
		"on day 0": acts("0 1 -1 a"), "on the last day": acts("999 1000 -1 a"), "on all days": acts("0 1000 +5 z"), "on a day that has passed": acts("1 2 ~5 a|b"), "by two acts": acts("0 9 +1 a", "8 10 +1 a"), "by the end of an act": acts("0 8 +1 a", "3 9 -1 a"),
		"by the order of the acts": acts("3 9 -1 a", "3 9 +1 a"),
	} {
		add("acts that break a day "+name, func(a *impl.Assembly) { a.Acts = list })
	}
}

func addInvalidMotions(add func(name string, change func(a *impl.Assembly))) {
	change := func(name string, change func(m *impl.Motion)) {
		add("the first motion has "+name, func(a *impl.Assembly) { change(&a.Motions[0]) })
		add("the last motion has "+name, func(a *impl.Assembly) { change(&a.Motions[1]) })
	}
	add("MaxMotions and one more", func(a *impl.Assembly) {
		a.Motions = nil
		for _, title := range titles() {
			a.Motions = append(a.Motions, motion(title+" ... 5 5 6 +1 a"))
		}
	})
	add("the Title of the other motion", func(a *impl.Assembly) { a.Motions[1].Title = "park" })
	add("the same motion again", func(a *impl.Assembly) { a.Motions[1] = a.Motions[0] })
	add("the first and the last of three motions with one Title", func(a *impl.Assembly) { a.Motions = append(a.Motions, motion("park ... 2 2 3 +1 b")) })
	for _, title := range notNames() {
		change(fmt.Sprintf("the Title %q", title), func(m *impl.Motion) { m.Title = title })
	}
	for _, author := range []int64{-1, 3, 4, 12, 1 << 32, math.MaxInt64, math.MinInt64} {
		change(fmt.Sprint("the Author ", author), func(m *impl.Motion) { m.Author = author })
	}
	change("a patch without an edit", func(m *impl.Motion) { m.Patch = nil })
	for name, p := range invalidPatches() {
		change("the patch "+name, func(m *impl.Motion) { m.Patch = p })
	}
	for _, days := range notProposedDays() {
		change(fmt.Sprint("the days ", days), func(m *impl.Motion) { m.Closes, m.From, m.Until = days[0], days[1], days[2] })
	}
	for _, votes := range []string{"", ".", "..", "....", "yyyy", "............."} {
		change("the votes "+votes, func(m *impl.Motion) { m.Votes = motionVotes(votes) })
	}
	for _, vote := range []int64{-1, 4, 5, 1 << 32, math.MaxInt64, math.MinInt64} {
		for i := range 3 {
			change(fmt.Sprint("the vote ", vote, " of member ", i), func(m *impl.Motion) { m.Votes[i] = vote })
		}
	}
	for _, result := range []int64{-1, 1, 2, 3, 4, 5, math.MaxInt64, math.MinInt64} {
		change(fmt.Sprint("a Closes behind the day and the Result ", result), func(m *impl.Motion) { m.Result = result })
	}
	for _, result := range []int64{-1, 0, 5, math.MaxInt64, math.MinInt64} {
		for _, day := range []int64{1, 2} {
			add(fmt.Sprint("a Closes not behind the day ", day, " and the Result ", result), func(a *impl.Assembly) { a.Day, a.Motions[0].Result = day, result })
		}
	}
}

// notNames are texts that are no titles.
func notNames() []string {
	return []string{"", " ", "A", "Park", "parK", "park1", "a b", " a", "a ", "a\n", "abcdefghijk", strings.Repeat("a", 1000), "ä", "`", "{", "a\x00", "\xff", "a-b", "а"}
}

// notProposedDays are days on which no motion can close, begin and end.
func notProposedDays() [][3]int64 {
	return [][3]int64{
		{0, 0, 1}, {0, 1, 2}, {-1, 1, 2}, {-1, -1, 1}, {1000, 1000, 1001}, {1000, 1000, 1000}, {1001, 1002, 1003}, {5, 4, 9}, {5, 0, 9}, {5, -1, 9}, {5, 5, 5}, {5, 7, 7}, {5, 7, 6}, {5, 7, 0}, {5, 7, -1}, {5, 7, 1001},
		{999, 999, 1001}, {999, 1000, 1001}, {999, 1000, 1000}, {999, 999, 999}, {999, 998, 1000}, {math.MinInt64, 7, 9}, {5, math.MinInt64, 9}, {5, 7, math.MinInt64}, {math.MaxInt64, 7, 9}, {5, math.MaxInt64, 9}, {5, 7, math.MaxInt64}, {math.MaxInt64 - 1, math.MaxInt64 - 1, math.MaxInt64}, {1 << 32, 1 << 32, 1<<32 + 1},
	}
}

// proposedDays are days on which a motion can close, begin and end.
func proposedDays() [][3]int64 {
	return [][3]int64{{1, 1, 2}, {1, 1, 1000}, {1, 999, 1000}, {5, 5, 6}, {5, 5, 1000}, {5, 7, 8}, {5, 999, 1000}, {998, 998, 999}, {999, 999, 1000}}
}
