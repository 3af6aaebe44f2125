package tests

import (
	"fmt"
	"math/rand"
	"slices"
	"testing"

	"loop.example/g01095/impl"
)

// checkMotion checks all that there is to know of the ballots for a motion.
func checkMotion(t *testing.T, a impl.Assembly, m impl.Motion) {
	t.Helper()
	what := fmt.Sprintf(" of %q in %+v", m.Title, a)
	list, ok := impl.VoicesFor(a, m.Title)
	expectVoices(t, "VoicesFor"+what, list, ok, voicesIn(a, m.Votes), true)
	count, ok := impl.CountOf(a, m.Title)
	expectList(t, "CountOf"+what, count, ok, ballotsIn(a, m.Votes), true)
	for vote := int64(impl.VoteYes); vote <= impl.VoteBlank; vote++ {
		members, ok := impl.CountedFor(a, m.Title, vote)
		expectList(t, fmt.Sprint("CountedFor", what, vote), members, ok, settledFor(a, m.Votes, vote), true)
	}
	for member := range int64(len(a.Trust)) {
		count, ok := impl.CountWithout(a, m.Title, member)
		expectList(t, fmt.Sprint("CountWithout", what, member), count, ok, ballotsIn(a, silencedIn(m.Votes, member)), true)
	}
	leaders, ok := impl.LeadersOf(a, m.Title)
	expectList(t, "LeadersOf"+what, leaders, ok, leadersIn(a, m.Votes), true)
}

// checkVerdict checks the result of a motion and the members who bring it about, and returns the result.
func checkVerdict(t *testing.T, a impl.Assembly, m impl.Motion) int64 {
	t.Helper()
	what := fmt.Sprintf(" of %q in %+v", m.Title, a)
	result, swing := m.Result, []int64(nil)
	if m.Result == impl.MotionOpen {
		result, swing = verdictIn(a, m, m.Votes), swingIn(a, m)
	}
	verdict, ok := impl.VerdictOf(a, m.Title)
	expect(t, "VerdictOf"+what, verdict, ok, result, true)
	members, ok := impl.SwingMembers(a, m.Title)
	expectList(t, "SwingMembers"+what, members, ok, swing, m.Result == impl.MotionOpen)
	return verdict
}

func TestMotions(t *testing.T) {
	results := map[int64]int{}
	for _, a := range randomAssemblies(310, 1200, 60) {
		for _, m := range a.Motions {
			checkMotion(t, a, m)
			if verdict := checkVerdict(t, a, m); m.Result == impl.MotionOpen {
				results[verdict]++
			}
		}
	}
	for result := int64(impl.MotionAdopted); result <= impl.MotionBroken; result++ {
		if results[result] < 100 {
			t.Errorf("only %d open motions have the result %d", results[result], result)
		}
	}
}

// TestAllSmallMotions tries all votes and all trust of up to three members, whose ballots are settled alike by all rules.
func TestAllSmallMotions(t *testing.T) {
	for members := 1; members <= 3; members++ {
		for _, list := range smallVoices(members) {
			// The voices who speak in these lists are tried as votes.
			if slices.ContainsFunc(list, func(v impl.Voice) bool { return v.Speaks }) {
				continue
			}
			votes := make([]int64, members)
			var vote func(member int)
			vote = func(member int) {
				if member < members {
					for votes[member] = range int64(impl.VoteBlank + 1) {
						vote(member + 1)
					}
					return
				}
				a := assembly(textOf(list), "park . 1 2 9 +1 a")
				a.Motions[0].Votes = votes
				checkMotion(t, a, a.Motions[0])
				checkVerdict(t, a, a.Motions[0])
			}
			vote(0)
		}
	}
}

func TestBallotCountCases(t *testing.T) {
	// By breadth member 0 is settled with 1, by the sum of ranks with 2, and by depth with 3.
	byRule := "-4,5,7,1 - - - -7,6 -2 -3 -"
	for _, c := range []struct {
		name, members, votes string
		rule                 int64
		count                []int64
		leaders              []int64
	}{
		{"the document's example", "- -0 -", "y.n", impl.RuleBreadth, []int64{1, 2, 0, 0}, []int64{0}},
		{"one member without a vote", "-", ".", impl.RuleBreadth, []int64{0, 0, 0, 1}, nil},
		{"one member with a vote", "-", "b", impl.RuleBreadth, []int64{0, 0, 1, 0}, []int64{0}},
		{"nobody has a vote", "-1 -2 -0", "...", impl.RuleSum, []int64{0, 0, 0, 3}, nil},
		{"all have a vote", "-1 -2 -0 -", "nyby", impl.RuleDepth, []int64{1, 2, 1, 0}, []int64{0, 1, 2, 3}},
		{"all have the same vote", "- - -", "bbb", impl.RuleDepth, []int64{0, 0, 3, 0}, []int64{0, 1, 2}},
		{"a member with a vote trusts others in vain", "-1 -0,2 -", "nyy", impl.RuleBreadth, []int64{1, 2, 0, 0}, []int64{0, 1, 2}},
		{"blank votes of others", "- -0 -0 -4 -", "b..ny", impl.RuleBreadth, []int64{1, 1, 3, 0}, []int64{0}},
		{"lost ballots in a circle", "-1 -0 - -2", "..y.", impl.RuleBreadth, []int64{0, 2, 0, 2}, []int64{2}},
		{"a lost ballot of a member who trusts nobody", "- -0 -", "..n", impl.RuleBreadth, []int64{1, 0, 0, 2}, []int64{2}},
		{"two leaders", "- -0 - -2 -", "y.n.b", impl.RuleBreadth, []int64{2, 2, 1, 0}, []int64{0, 2}},
		{"two leaders who are not the first", "- - -1 - -3", "yy.n.", impl.RuleBreadth, []int64{2, 3, 0, 0}, []int64{1, 3}},
		{"by breadth", byRule, ".ynb....", impl.RuleBreadth, []int64{2, 2, 3, 1}, []int64{3}},
		{"by the sum of ranks", byRule, ".ynb....", impl.RuleSum, []int64{3, 1, 3, 1}, []int64{2, 3}},
		{"by depth", byRule, ".ynb....", impl.RuleDepth, []int64{2, 1, 4, 1}, []int64{3}},
		{"MaxMembers trust one another in a row", "- -0 -1 -2 -3 -4 -5 -6 -7 -8 -9 -10", "y...........", impl.RuleBreadth, []int64{0, 12, 0, 0}, []int64{0}},
	} {
		a := assembly(c.members, "park "+c.votes+" 1 2 9 +1 a")
		a.Rule = c.rule
		count, ok := impl.CountOf(a, "park")
		expectList(t, c.name+": CountOf", count, ok, c.count, true)
		leaders, ok := impl.LeadersOf(a, "park")
		expectList(t, c.name+": LeadersOf", leaders, ok, c.leaders, true)
		checkMotion(t, a, a.Motions[0])
		checkVerdict(t, a, a.Motions[0])
	}
}

// verdictCase is a motion with its result if it is decided now, and the members without whose vote this differs.
type verdictCase struct {
	a      impl.Assembly
	result int64
	swing  []int64
}

func verdictCases() map[string]verdictCase {
	vote := func(members, votes string) impl.Assembly { return assembly(members, "park "+votes+" 1 2 9 +1 a") }
	// With this base the act cannot be entered.
	inVain := func(members, votes string) impl.Assembly { return under(vote(members, votes), "1 a", nil) }
	const adopted, rejected, void, broken = impl.MotionAdopted, impl.MotionRejected, impl.MotionVoid, impl.MotionBroken
	return map[string]verdictCase{
		"the document's example":                     {vote("- -0 -", "y.n"), adopted, []int64{0}},
		"nobody has a vote":                          {vote("- -0 -", "..."), void, nil},
		"one member has no vote":                     {vote("-", "."), void, nil},
		"one member votes yes":                       {vote("-", "y"), adopted, []int64{0}},
		"one member votes no":                        {vote("-", "n"), rejected, []int64{0}},
		"one member votes blank":                     {vote("-", "b"), rejected, []int64{0}},
		"all vote yes":                               {vote("- - -", "yyy"), adopted, nil},
		"all vote blank":                             {vote("- - -", "bbb"), rejected, nil},
		"just half of all ballots":                   {vote("- - - -", "yy.."), adopted, []int64{0, 1}},
		"just half, and no is against it":            {vote("- - - -", "nn.."), rejected, []int64{0, 1}},
		"just half, with blank votes":                {vote("- - - -", ".y.b"), adopted, []int64{1, 3}},
		"just half, with ballots of others":          {vote("- - - -2", "..y."), adopted, []int64{2}},
		"just half of MaxMembers":                    {vote("- - - - - - - - - - - -", "......yyyyyy"), adopted, []int64{6, 7, 8, 9, 10, 11}},
		"one less than half of all ballots":          {vote("- - - -", "y..."), void, nil},
		"one less than half, with ballots of others": {vote("- -0 - - - -", "y....."), void, nil},
		"one less than half of MaxMembers":           {vote("- - - - - - - - - - - -", ".......yyyyy"), void, nil},
		"half a ballot less than half":               {vote("- - -", "y.."), void, nil},
		"half a ballot less than half of five":       {vote("- - - - -", "yy..."), void, nil},
		"half a ballot more than half":               {vote("- - -", "yy."), adopted, []int64{0, 1}},
		"void although no act could be entered":      {inVain("- - -", "y.."), void, nil},
		"as many ballots for yes as for no":          {vote("- -", "yn"), rejected, []int64{1}},
		"as many, with ballots of others":            {vote("- -0 - -", "y.nn"), rejected, []int64{2, 3}},
		"one ballot more for no":                     {vote("- - -", "nyn"), rejected, nil},
		"rejected although no act could be entered":  {inVain("- -", "yn"), rejected, []int64{1}},
		"less for yes than blank":                    {vote("- - -", "ybb"), adopted, []int64{0}},
		"without a vote rejected":                    {vote("- - - -", "yyn."), adopted, []int64{0, 1}},
		"without a vote adopted":                     {vote("- - -", "ynb"), rejected, []int64{1}},
		"without a vote broken":                      {inVain("- - -", "ynb"), rejected, []int64{1}},
		"broken":                                     {inVain("- - -", "yyy"), broken, nil},
		"broken, and without a vote rejected":        {inVain("- - -", "yyn"), broken, []int64{0, 1}},
		"broken, and without a vote void":            {inVain("- -0 -0", "y.."), broken, []int64{0}},
		"without a vote its ballots change sides":    {vote("-1 - -0 -", "yn.."), adopted, []int64{0}},
		"a vote for which others stand in":           {vote("-1 - -0", "yy."), adopted, nil},
		"a vote that others follow":                  {vote("- -0 -0 -0 - -", "y...nn"), adopted, []int64{0}},
	}
}

func TestVerdictCases(t *testing.T) {
	for name, c := range verdictCases() {
		verdict, ok := impl.VerdictOf(c.a, "park")
		expect(t, name+": VerdictOf", verdict, ok, c.result, true)
		swing, ok := impl.SwingMembers(c.a, "park")
		expectList(t, name+": SwingMembers", swing, ok, c.swing, true)
		checkMotion(t, c.a, c.a.Motions[0])
		after, ok := impl.DoDeed(c.a, deed("next"))
		if !ok || after.Motions[0].Result != c.result || len(after.Acts) > 0 != (c.result == impl.MotionAdopted) {
			t.Errorf("%s: DoDeed next: got %+v, %v", name, after, ok)
		}
	}
}

func TestDecidedMotions(t *testing.T) {
	for result := int64(impl.MotionAdopted); result <= impl.MotionBroken; result++ {
		for _, votes := range []string{"...", "yyy", "nnn", "yn."} {
			for _, base := range []string{"", "1 a"} {
				a := changed(under(assembly("- -0 -", "park "+votes+" 3 4 9 +1 a"), base, nil), func(a *impl.Assembly) { a.Day, a.Motions[0].Result = 3, result })
				verdict, ok := impl.VerdictOf(a, "park")
				expect(t, "VerdictOf a decided motion", verdict, ok, result, true)
				swing, ok := impl.SwingMembers(a, "park")
				expectList(t, "SwingMembers of a decided motion", swing, ok, nil, false)
				// The ballots can still be counted.
				checkMotion(t, a, a.Motions[0])
			}
		}
	}
}

// entryCase has acts that a motion's act is entered among, and the acts then, if it can be.
type entryCase struct {
	name, base string
	acts       []impl.Act
	motion     string
	want       []impl.Act
}

func entryCases() []entryCase {
	full := slices.Repeat(acts("1 2 "), impl.MaxActs)
	return []entryCase{
		{"no acts", "", nil, "4 9 +1 a", acts("4 9 +1 a")},
		{"all days from the next one on", "", nil, "1 1000 +1 a", acts("1 1000 +1 a")},
		{"the last day", "", nil, "999 1000 +1 a", acts("999 1000 +1 a")},
		{"behind others", "", acts("1 9 +1 a", "3 9 +2 a"), "4 9 +3 a", acts("1 9 +1 a", "3 9 +2 a", "4 9 +3 a")},
		{"before others", "", acts("4 9 +1 a", "5 9 +2 a"), "3 9 +3 a", acts("3 9 +3 a", "4 9 +1 a", "5 9 +2 a")},
		{"between others", "", acts("1 9 +1 a", "5 9 +2 a"), "3 9 +3 a", acts("1 9 +1 a", "3 9 +3 a", "5 9 +2 a")},
		{"behind acts with the same From", "", acts("1 9 +1 a", "3 9 +2 a", "3 9 +4 a", "5 9 +5 a"), "3 9 +3 a", acts("1 9 +1 a", "3 9 +2 a", "3 9 +4 a", "3 9 +3 a", "5 9 +5 a")},
		{"an equal act without an effect", "1 a", acts("3 9 ~1 a|b", "3 9 ~1 b|a"), "3 9 ~1 a|b", acts("3 9 ~1 a|b", "3 9 ~1 b|a", "3 9 ~1 a|b")},
		{"what an act with the same From has left", "1 a", acts("3 9 ~1 a|b"), "3 9 ~1 b|c", acts("3 9 ~1 a|b", "3 9 ~1 b|c")},
		{"what the base has, but an act with the same From has not left", "1 a", acts("3 9 ~1 a|b"), "3 9 ~1 a|c", nil},
		{"what an act with a greater From leaves", "1 a", acts("4 9 ~1 a|b"), "3 9 ~1 b|c", nil},
		{"on the first day", "1 a", nil, "3 9 +1 a", nil},
		{"an article that there is not", "", nil, "3 9 -1 a", nil},
		{"another text", "1 b", nil, "3 9 -1 a", nil},
		{"until another act begins", "", acts("6 9 +1 b"), "3 6 +1 a", acts("3 6 +1 a", "6 9 +1 b")},
		{"on the first day of a later act", "", acts("6 9 +1 b"), "3 7 +1 a", nil},
		{"on a far day", "", acts("999 1000 +1 b"), "3 1000 +1 a", nil},
		{"on the day on which an earlier act ends", "", acts("1 5 +1 a"), "3 9 -1 a", nil},
		{"before the day on which an earlier act ends", "", acts("1 5 +1 a"), "3 5 -1 a", acts("1 5 +1 a", "3 5 -1 a")},
		{"a later act takes away what the act takes, too", "1 a", acts("6 9 -1 a"), "3 1000 -1 a", nil},
		{"MaxActs", "", slices.Repeat(acts("1 2 "), impl.MaxActs-1), "3 9 +1 a", append(slices.Repeat(acts("1 2 "), impl.MaxActs-1), acts("3 9 +1 a")...)},
		{"one act more than MaxActs", "", full, "3 9 +1 a", nil},
		{"MaxArticles", "2 a;3 a;4 a;5 a;6 a;7 a;8 a", nil, "3 9 +1 a", acts("3 9 +1 a")},
		{"one article more than MaxArticles", "2 a;3 a;4 a;5 a;6 a;7 a;8 a;9 a", nil, "3 9 +1 a", nil},
		{"one article more on a later day", "2 a;3 a;4 a;5 a;6 a;7 a;8 a", acts("5 6 +9 a"), "3 9 +1 a", nil},
	}
}

func TestEntryCases(t *testing.T) {
	for _, c := range entryCases() {
		a := under(assembly("- -", "park yy 1 "+c.motion), c.base, c.acts)
		checkAssembly(t, c.name, a, true)
		want := int64(impl.MotionAdopted)
		if c.want == nil {
			want = impl.MotionBroken
		}
		verdict, ok := impl.VerdictOf(a, "park")
		expect(t, c.name+": VerdictOf", verdict, ok, want, true)
		after, ok := impl.DoDeed(a, deed("next"))
		expect(t, c.name+": the Result", after.Motions[0].Result, ok, want, true)
		if c.want == nil {
			c.want = c.acts
		}
		expectActs(t, c.name+": the Acts", after.Acts, ok, c.want, true)
		checkVerdict(t, a, a.Motions[0])
	}
}

// notTitles are titles of no motion.
func notTitles() []string {
	return append(notNames(), "tax", "par", "parks", "Park", "p", "none", "a")
}

// refuseMotion checks that the functions of a motion fail.
func refuseMotion(t *testing.T, what string, a impl.Assembly, title string) {
	t.Helper()
	list, ok := impl.VoicesFor(a, title)
	expectVoices(t, "VoicesFor "+what, list, ok, nil, false)
	for name, run := range map[string]func() ([]int64, bool){
		"CountOf":      func() ([]int64, bool) { return impl.CountOf(a, title) },
		"CountedFor":   func() ([]int64, bool) { return impl.CountedFor(a, title, impl.VoteYes) },
		"CountWithout": func() ([]int64, bool) { return impl.CountWithout(a, title, 0) },
		"SwingMembers": func() ([]int64, bool) { return impl.SwingMembers(a, title) },
		"LeadersOf":    func() ([]int64, bool) { return impl.LeadersOf(a, title) },
	} {
		got, ok := run()
		expectList(t, name+" "+what, got, ok, nil, false)
	}
	verdict, ok := impl.VerdictOf(a, title)
	expect(t, "VerdictOf "+what, verdict, ok, 0, false)
}

func TestMotionsRefuse(t *testing.T) {
	a := assembly("- -0 -", "park y.n 1 2 9 +1 a")
	for _, title := range notTitles() {
		refuseMotion(t, fmt.Sprintf("of the title %q", title), a, title)
		refuseMotion(t, fmt.Sprintf("of the title %q without motions", title), assembly("-"), title)
	}
	for name, a := range invalidAssemblies() {
		for _, title := range []string{"park", "tax", ""} {
			refuseMotion(t, "with "+name, a, title)
		}
		text, ok := impl.TextToday(a)
		expectList(t, "TextToday with "+name, text, ok, nil, false)
	}
	for _, n := range []int64{-1, 4, 5, 1 << 32, 1<<32 + 1, 1<<63 - 1, -1 << 63, impl.VoteNone} {
		members, ok := impl.CountedFor(a, "park", n)
		expectList(t, fmt.Sprint("CountedFor the vote ", n), members, ok, nil, false)
	}
	for _, n := range []int64{-1, 3, 4, 12, 1 << 32, 1<<32 + 1, 1<<63 - 1, -1 << 63} {
		count, ok := impl.CountWithout(a, "park", n)
		expectList(t, fmt.Sprint("CountWithout member ", n), count, ok, nil, false)
	}
}

// Each count is that of the settled ballots.
func TestCountsAreThoseOfSettledBallots(t *testing.T) {
	for _, a := range randomAssemblies(311, 300, 100) {
		for _, m := range a.Motions {
			what := fmt.Sprintf("%q in %+v", m.Title, a)
			list, _ := impl.VoicesFor(a, m.Title)
			weights, _ := impl.WeightsOf(list, a.Rule)
			lost, _ := impl.LostMembers(list)
			count, _ := impl.CountOf(a, m.Title)
			want := []int64{0, 0, 0, int64(len(lost))}
			for member, weight := range weights {
				if m.Votes[member] != impl.VoteNone {
					want[[]int{1, 0, 2}[m.Votes[member]-1]] += weight
				}
			}
			expectList(t, "the weights of "+what, count, true, want, true)
			all := slices.Clone(lost)
			for vote := int64(impl.VoteYes); vote <= impl.VoteBlank; vote++ {
				members, _ := impl.CountedFor(a, m.Title, vote)
				all = append(all, members...)
			}
			slices.Sort(all)
			expectList(t, "all members who are counted for or lost: "+what, all, true, others(len(a.Trust), -1), true)
		}
	}
}

// Turning a vote to yes never makes an adopted motion fail, and never takes a ballot from yes or gives one to no.
func TestAnotherYesHelps(t *testing.T) {
	adopted, turned := 0, 0
	for _, a := range randomAssemblies(312, 700, 40) {
		for _, m := range a.Motions {
			if m.Result != impl.MotionOpen {
				continue
			}
			before, _ := impl.CountOf(a, m.Title)
			verdict, _ := impl.VerdictOf(a, m.Title)
			for member := range int64(len(a.Trust)) {
				after, ok := impl.DoDeed(a, impl.Deed{Kind: impl.DeedVote, Member: member, Title: m.Title, Vote: impl.VoteYes})
				count, isCounted := impl.CountOf(after, m.Title)
				if !ok || !isCounted || count[0] > before[0] || count[1] < before[1] || count[3] > before[3] {
					t.Errorf("member %d votes yes on %q in %+v: the count %v becomes %v", member, m.Title, a, before, count)
				}
				now, _ := impl.VerdictOf(after, m.Title)
				if verdict == impl.MotionAdopted {
					adopted++
					expect(t, fmt.Sprintf("VerdictOf %q in %+v after member %d votes yes", m.Title, a, member), now, true, impl.MotionAdopted, true)
				} else if now == impl.MotionAdopted {
					turned++
				}
			}
		}
	}
	if adopted < 200 || turned < 200 {
		t.Errorf("only %d votes for adopted motions, and %d by which one is adopted", adopted, turned)
	}
}

// If the members who have a vote seal it, the sealed count with the weights of their settled ballots is opened by the count.
func TestSealedMotions(t *testing.T) {
	random := rand.New(rand.NewSource(313))
	ballotFor := map[int64]int64{impl.VoteNo: impl.BallotNo, impl.VoteYes: impl.BallotYes, impl.VoteBlank: impl.BallotBlank}
	for _, a := range randomAssemblies(314, 60, 20) {
		for _, m := range a.Motions {
			voices, _ := impl.VoicesFor(a, m.Title)
			settled, _ := impl.WeightsOf(voices, a.Rule)
			var ballots []impl.Ballot
			var weights []int64
			var keys [][]int64
			for member, vote := range m.Votes {
				if vote == impl.VoteNone {
					continue
				}
				own := randomList(random, 3, randomExponent)
				ballot, ok := impl.SealBallot(ballotFor[vote], own, randomLists(random, 3))
				if !ok {
					t.Fatalf("SealBallot for %d fails", vote)
				}
				ballots, weights, keys = append(ballots, ballot), append(weights, settled[member]), append(keys, own)
			}
			count, _ := impl.CountOf(a, m.Title)
			sums := joinedKeys(keys, weights)
			if !impl.IsOpening(ballots, weights, count[:3], sums) {
				t.Errorf("the sealed count of %q in %+v is not opened by %v", m.Title, a, count)
			}
			for vote := range 3 {
				other := slices.Clone(count[:3])
				other[vote]++
				if impl.IsOpening(ballots, weights, other, sums) {
					t.Errorf("the sealed count of %q in %+v is opened by %v", m.Title, a, other)
				}
			}
		}
	}
}
