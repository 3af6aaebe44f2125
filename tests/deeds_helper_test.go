package tests

import (
	"cmp"
	"fmt"
	"math/rand"
	"slices"
	"strings"

	"loop.example/g01095/impl"
)

// deed writes a deed as trust, Member and Trust; as vote, Member, Title and the name of the vote; as propose, Member, Title, Closes,
// From, Until and a patch; or as next.
func deed(text string) impl.Deed {
	words := strings.SplitN(text, " ", 7)
	d := impl.Deed{Kind: 1 + int64(slices.Index([]string{"trust", "vote", "propose", "next"}, words[0]))}
	if d.Kind == impl.DeedNext {
		return d
	}
	d.Member = integer(words[1])
	switch {
	case d.Kind == impl.DeedVote:
		d.Title, d.Vote = words[2], int64(slices.Index([]string{"none", "yes", "no", "blank"}, words[3]))
	case d.Kind == impl.DeedPropose:
		d.Title, d.Closes, d.From, d.Until, d.Patch = words[2], integer(words[3]), integer(words[4]), integer(words[5]), patch(words[6])
	case len(words) > 2:
		d.Trust = numbers(words[2])
	}
	return d
}

func deeds(texts ...string) []impl.Deed {
	var list []impl.Deed
	for _, text := range texts {
		list = append(list, deed(text))
	}
	return list
}

// isDeedIn goes through the conditions for each kind of deed.
func isDeedIn(d impl.Deed) bool {
	isMember, hasTitle := d.Member >= 0 && d.Member < impl.MaxMembers, name.MatchString(d.Title)
	isAct := isActIn(d.Patch, d.Closes, d.From, d.Until)
	noMember, noTrust, noTitle, noVote := d.Member == 0, len(d.Trust) == 0, d.Title == "", d.Vote == 0
	noAct := len(d.Patch) == 0 && d.Closes == 0 && d.From == 0 && d.Until == 0
	switch d.Kind {
	case impl.DeedTrust:
		return isTrustIn(impl.MaxMembers, d.Member, d.Trust) && noTitle && noVote && noAct
	case impl.DeedVote:
		return isMember && hasTitle && d.Vote >= impl.VoteNone && d.Vote <= impl.VoteBlank && noTrust && noAct
	case impl.DeedPropose:
		return isMember && hasTitle && isAct && noTrust && noVote
	case impl.DeedNext:
		return noMember && noTrust && noTitle && noVote && noAct
	}
	return false
}

// doneIn returns the assembly after a deed, as the document describes it.
func doneIn(a impl.Assembly, d impl.Deed) (impl.Assembly, bool) {
	a = roomy(a)
	if !isAssemblyIn(a) || !isDeedIn(d) || slices.Max(append(d.Trust, d.Member)) >= int64(len(a.Trust)) {
		return impl.Assembly{}, false
	}
	var named *impl.Motion
	for k := range a.Motions {
		if a.Motions[k].Title == d.Title {
			named = &a.Motions[k]
		}
	}
	switch d.Kind {
	case impl.DeedTrust:
		a.Trust[d.Member] = slices.Clone(d.Trust)
		return a, true
	case impl.DeedVote:
		if named == nil || named.Result != impl.MotionOpen {
			return impl.Assembly{}, false
		}
		named.Votes[d.Member] = d.Vote
		return a, true
	case impl.DeedPropose:
		if named != nil || len(a.Motions) == impl.MaxMotions || d.Closes <= a.Day {
			return impl.Assembly{}, false
		}
		m := impl.Motion{Title: d.Title, Author: d.Member, Patch: d.Patch, From: d.From, Until: d.Until, Closes: d.Closes, Votes: make([]int64, len(a.Trust))}
		a.Motions = append(a.Motions, m)
		return a, true
	}
	return nextIn(a)
}

// nextIn begins the next day and decides the motions that close on it.
func nextIn(a impl.Assembly) (impl.Assembly, bool) {
	if a.Day == impl.MaxDay {
		return impl.Assembly{}, false
	}
	a.Day++
	for k := range a.Motions {
		m := &a.Motions[k]
		if m.Closes != a.Day {
			continue
		}
		m.Result = verdictIn(a, *m, m.Votes)
		if m.Result == impl.MotionAdopted {
			a.Acts, _ = enterIn(a, impl.Act{From: m.From, Until: m.Until, Patch: m.Patch})
		}
	}
	return a, true
}

// doneAll does deeds as long as this is possible.
func doneAll(a impl.Assembly, list []impl.Deed) (impl.Assembly, int64) {
	for i, d := range list {
		after, ok := doneIn(a, d)
		if !ok {
			return a, int64(i)
		}
		a = after
	}
	return a, int64(len(list))
}

// randomDeed returns a valid deed that can nearly always be done.
func randomDeed(random *rand.Rand, a impl.Assembly) impl.Deed {
	members := min(int64(len(a.Trust))+random.Int63n(20)/19, impl.MaxMembers)
	d := impl.Deed{Member: random.Int63n(members)}
	title := titles()[random.Intn(len(titles()))]
	if len(a.Motions) > 0 && random.Intn(10) > 0 {
		title = a.Motions[random.Intn(len(a.Motions))].Title
	}
	switch random.Intn(8) {
	case 0:
		for _, other := range random.Perm(int(members))[:random.Intn(min(int(members), impl.MaxTrust)+1)] {
			if int64(other) != d.Member {
				d.Trust = append(d.Trust, int64(other))
			}
		}
		d.Kind = impl.DeedTrust
	case 1:
		m := randomProposal(random, a, titles()[random.Intn(len(titles()))])
		if m.Closes <= a.Day && random.Intn(8) > 0 && a.Day < impl.MaxDay {
			m.Closes, m.From, m.Until = a.Day+1, max(m.From, a.Day+1), max(m.Until, a.Day+2)
		}
		return impl.Deed{Kind: impl.DeedPropose, Member: d.Member, Title: m.Title, Patch: m.Patch, Closes: m.Closes, From: m.From, Until: m.Until}
	case 2:
		return impl.Deed{Kind: impl.DeedNext}
	default:
		d.Kind, d.Title, d.Vote = impl.DeedVote, title, []int64{0, 1, 1, 1, 1, 2, 3}[random.Intn(7)]
	}
	return d
}

// actsOfAdopted returns the acts of the motions that have been adopted, those that begin first and then those that were decided first.
func actsOfAdopted(a impl.Assembly) []impl.Act {
	var adopted []impl.Motion
	for _, m := range a.Motions {
		if m.Result == impl.MotionAdopted {
			adopted = append(adopted, m)
		}
	}
	slices.SortStableFunc(adopted, func(m, n impl.Motion) int {
		return cmp.Or(cmp.Compare(m.From, n.From), cmp.Compare(m.Closes, n.Closes))
	})
	var list []impl.Act
	for _, m := range adopted {
		list = append(list, impl.Act{From: m.From, Until: m.Until, Patch: m.Patch})
	}
	return list
}

// invalidDeeds break one condition each.
func invalidDeeds() map[string]impl.Deed {
	list := map[string]impl.Deed{"no fields": {}}
	valid := []string{"trust 0 1,2", "vote 0 park yes", "propose 0 park 1 2 9 +1 a", "next"}
	for _, kind := range []int64{0, -1, 5, 6, 1 << 32, 1<<32 + 1, 1<<63 - 1, -1 << 63} {
		for _, text := range valid {
			d := deed(text)
			d.Kind = kind
			list[fmt.Sprint(text, " with the Kind ", kind)] = d
		}
	}
	add := func(text, what string, change func(d *impl.Deed)) {
		d := deed(text)
		change(&d)
		list[text+" with "+what] = d
	}
	for _, text := range valid[:3] {
		for _, n := range []int64{-1, 12, 13, 1 << 32, 1<<63 - 1, -1 << 63} {
			add(text, fmt.Sprint("member ", n), func(d *impl.Deed) { d.Member = n })
		}
	}
	for _, text := range valid[1:3] {
		for _, title := range notNames() {
			add(text, fmt.Sprintf("the Title %q", title), func(d *impl.Deed) { d.Title = title })
		}
	}
	for _, trust := range []string{"0", "1,0", "1,1", "1,2,1", "12", "-1", "1,13", "1,2,3,4,5", "1,2,3,4,0", "4294967297"} {
		list["trust 0 "+trust] = deed("trust 0 " + trust)
	}
	list["trust 11 11"] = deed("trust 11 11")
	for _, vote := range []int64{-1, 4, 5, 1 << 32, 1<<63 - 1, -1 << 63} {
		add("vote 0 park yes", fmt.Sprint("the vote ", vote), func(d *impl.Deed) { d.Vote = vote })
	}
	for _, days := range notProposedDays() {
		add("propose 0 park 1 2 9 +1 a", fmt.Sprint("the days ", days), func(d *impl.Deed) { d.Closes, d.From, d.Until = days[0], days[1], days[2] })
	}
	add("propose 0 park 1 2 9 +1 a", "no edits", func(d *impl.Deed) { d.Patch = nil })
	for name, p := range invalidPatches() {
		add("propose 0 park 1 2 9 +1 a", "the patch "+name, func(d *impl.Deed) { d.Patch = p })
	}
	addFieldsNotMentioned(add)
	return list
}

// addFieldsNotMentioned adds deeds with fields that their kinds do not mention.
func addFieldsNotMentioned(add func(text, what string, change func(d *impl.Deed))) {
	for text, fields := range map[string]string{"trust 0 1,2": "title vote act", "trust 0": "title vote act", "vote 0 park none": "trust act", "propose 0 park 1 2 9 +1 a": "trust vote", "next": "member trust title vote act"} {
		for _, field := range strings.Fields(fields) {
			for _, n := range []int64{1, -1, 11, 1 << 32, -1 << 63} {
				switch field {
				case "member":
					add(text, fmt.Sprint("Member ", n), func(d *impl.Deed) { d.Member = n })
				case "trust":
					add(text, fmt.Sprint("Trust ", n), func(d *impl.Deed) { d.Trust = []int64{n} })
				case "title":
					add(text, "a Title", func(d *impl.Deed) { d.Title = "park" })
					add(text, "a Title that is no name", func(d *impl.Deed) { d.Title = " " })
				case "vote":
					add(text, fmt.Sprint("a vote ", n), func(d *impl.Deed) { d.Vote = n })
				case "act":
					add(text, "a patch", func(d *impl.Deed) { d.Patch = patch("+1 a") })
					add(text, "a patch that is none", func(d *impl.Deed) { d.Patch = make([]impl.Edit, 1) })
					add(text, fmt.Sprint("From ", n), func(d *impl.Deed) { d.From = n })
					add(text, fmt.Sprint("Until ", n), func(d *impl.Deed) { d.Until = n })
					add(text, fmt.Sprint("Closes ", n), func(d *impl.Deed) { d.Closes = n })
				}
			}
		}
	}
}
