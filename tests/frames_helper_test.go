package tests

import (
	"fmt"
	"math"
	"math/rand"
	"slices"
	"strings"
	"testing"

	"loop.example/g01095/impl"
)

// frame writes a frame as its text does, without the bounds of the document. An attack may have more or fewer arguments than two.
func frame(text string) impl.Frame {
	words := strings.Fields(text)
	f := impl.Frame{Count: integer(words[0])}
	for _, word := range words[1:] {
		var attack []int64
		for _, number := range strings.FieldsFunc(word, func(r rune) bool { return r == '>' }) {
			attack = append(attack, integer(number))
		}
		f.Attacks = append(f.Attacks, attack)
	}
	return f
}

// frameText is the text of a frame, as the document describes it.
func frameText(f impl.Frame) string {
	text := fmt.Sprint(f.Count)
	for _, attack := range f.Attacks {
		text += " " + strings.ReplaceAll(strings.Trim(fmt.Sprint(attack), "[]"), " ", ">")
	}
	return text
}

func sameFrame(a, b impl.Frame) bool { return a.Count == b.Count && sameLists(a.Attacks, b.Attacks) }

// expectFrame is expect for frames.
func expectFrame(t *testing.T, what string, got impl.Frame, ok bool, want impl.Frame, wantOK bool) {
	t.Helper()
	if !sameFrame(got, want) || ok != wantOK {
		t.Errorf("%s: got %v, %v, want %v, %v", what, got, ok, want, wantOK)
	}
}

// smallFrames returns all frames with so many arguments.
func smallFrames(count int64) []impl.Frame {
	var frames []impl.Frame
	for mask := range 1 << (count * count) {
		f := impl.Frame{Count: count}
		for i := range count * count {
			if mask>>i&1 == 1 {
				f.Attacks = append(f.Attacks, []int64{i / count, i % count})
			}
		}
		frames = append(frames, f)
	}
	return frames
}

// framed returns a frame with attacks that are sorted, each of them once.
func framed(count int64, attacks [][]int64) impl.Frame {
	slices.SortFunc(attacks, slices.Compare)
	return impl.Frame{Count: count, Attacks: slices.CompactFunc(attacks, slices.Equal)}
}

// randomFrame returns a frame in which paths lead through groups of arguments, and around in some of these, with few or many other
// attacks. In half of all frames, hardly any way leads back. The arguments are mixed.
func randomFrame(random *rand.Rand) impl.Frame {
	count := 2 + random.Intn(impl.MaxArguments-1)
	order := random.Perm(count)
	isForward := random.Intn(2) == 0
	var attacks [][]int64
	attack := func(from, to int) {
		if isForward && from >= to && random.Intn(2*count) > 0 {
			return
		}
		attacks = append(attacks, []int64{int64(order[from]), int64(order[to])})
	}
	for first := 0; first < count; {
		end := min(first+1+random.Intn(count), count)
		for i := first + 1; i < end; i++ {
			attack(i-1, i)
		}
		if random.Intn(2) == 0 {
			attack(end-1, first)
		}
		first = end
	}
	for range random.Intn([]int{2, count, count * count}[random.Intn(3)]) {
		attack(random.Intn(count), random.Intn(count))
	}
	return framed(int64(count), attacks)
}

// sampleFrames are all small frames, and random ones of all sizes.
func sampleFrames(seed int64, count int) []impl.Frame {
	random := rand.New(rand.NewSource(seed))
	frames := slices.Concat(smallFrames(0), smallFrames(1), smallFrames(2), smallFrames(3))
	for range count {
		frames = append(frames, randomFrame(random))
	}
	return frames
}

// fullFrame has as many arguments and attacks as can be.
func fullFrame() impl.Frame {
	var attacks [][]int64
	for a := range int64(impl.MaxArguments) {
		for b := range int64(impl.MaxArguments) {
			attacks = append(attacks, []int64{a, b})
		}
	}
	return framed(impl.MaxArguments, attacks)
}

// invalidFrames are frames that break one bound each.
func invalidFrames() map[string]impl.Frame {
	list := map[string]impl.Frame{
		"a far count":               {Count: math.MaxInt64},
		"a far negative count":      {Count: math.MinInt64},
		"a count beyond bits":       {Count: 1 << 32},
		"a count of 64":             {Count: 64},
		"an attack that is nil":     {Count: 2, Attacks: [][]int64{nil}},
		"two attacks that are nil":  {Count: 2, Attacks: make([][]int64, 2)},
		"a later attack, nil":       {Count: 2, Attacks: [][]int64{{0, 1}, nil}},
		"a far argument":            {Count: 2, Attacks: [][]int64{{0, math.MaxInt64}}},
		"a far attacker":            {Count: 2, Attacks: [][]int64{{math.MaxInt64, 0}}},
		"a far negative argument":   {Count: 2, Attacks: [][]int64{{0, math.MinInt64}}},
		"a far negative attacker":   {Count: 2, Attacks: [][]int64{{math.MinInt64, 0}}},
		"an argument beyond bits":   {Count: 2, Attacks: [][]int64{{0, 1 << 32}}},
		"an attacker beyond bits":   {Count: 2, Attacks: [][]int64{{1 << 32, 0}}},
		"an argument beyond a set":  {Count: 2, Attacks: [][]int64{{0, 16}}},
		"an attacker beyond a set":  {Count: 2, Attacks: [][]int64{{64, 0}}},
		"an attack on no arguments": {Count: 0, Attacks: [][]int64{{0, 0}}},
	}
	for _, text := range []string{
		"-1", "-10", "11", "12", "16", "11 0>1", "-1 0>0", "2 >", "2 0", "2 0>1>0", "2 0>1>1", "2 0>1 1", "2 0>1 1>0>1", "3 0>1 0>1>2", "2 0>0>1>1",
		"2 1>0 0>1", "2 0>1 0>0", "3 0>1 2>0 1>0", "3 0>1 0>2 0>1", "3 0>2 1>0 0>1", "2 0>1 0>1", "1 0>0 0>0", "3 0>1 1>2 1>2", "3 0>1 1>2 0>1",
		"0 0>0", "1 0>1", "1 1>0", "1 1>1", "2 0>2", "2 2>0", "2 0>-1", "2 -1>0", "2 -1>-1 0>1", "2 0>1 1>2", "2 0>1 2>0", "10 0>10", "10 9>9 10>0", "10 0>1 9>10",
	} {
		list[text] = frame(text)
	}
	return list
}

// noSetsOf are lists that are no sets of so many arguments.
func noSetsOf(count int64) [][]int64 {
	lists := [][]int64{{count}, {-1}, {-1, 0}, {0, count}, {count, count + 1}, {0, 0}, {1, 0}, {0, 1, 1}, {0, 2, 1}, {1, 2, 0}, {count - 1, count - 1}, {0, 1 << 32}, {1 << 32}, {16}, {64}, {math.MaxInt64}, {math.MinInt64}, {math.MinInt64, 0}, {0, math.MaxInt64}}
	return append(lists, others(int(count)+1, -1), slices.Repeat([]int64{0}, 50))
}

func attacksIn(f impl.Frame, a, b int64) bool {
	return slices.ContainsFunc(f.Attacks, func(attack []int64) bool { return attack[0] == a && attack[1] == b })
}

// attackersIn returns all arguments that attack another one, or one of several.
func attackersIn(f impl.Frame, targets ...int64) []int64 {
	return slices.DeleteFunc(others(int(f.Count), -1), func(a int64) bool {
		return !slices.ContainsFunc(targets, func(b int64) bool { return attacksIn(f, a, b) })
	})
}

func conflictFreeIn(f impl.Frame, set []int64) bool {
	return !slices.ContainsFunc(attackersIn(f, set...), func(a int64) bool { return slices.Contains(set, a) })
}

func defendsIn(f impl.Frame, set []int64, a int64) bool {
	for _, attacker := range attackersIn(f, a) {
		if !slices.ContainsFunc(attackersIn(f, attacker), func(b int64) bool { return slices.Contains(set, b) }) {
			return false
		}
	}
	return true
}

func defendedIn(f impl.Frame, set []int64) []int64 {
	return slices.DeleteFunc(others(int(f.Count), -1), func(a int64) bool { return !defendsIn(f, set, a) })
}

func isPart(a, b []int64) bool {
	return !slices.ContainsFunc(a, func(n int64) bool { return !slices.Contains(b, n) })
}

// setsIn returns, in lexicographic order, the sets of a frame that are as the document calls them.
type setsIn struct {
	admissible, complete, preferred, stable [][]int64
}

func allSetsIn(f impl.Frame) setsIn {
	var all setsIn
	for _, set := range allSets(f.Count) {
		if !conflictFreeIn(f, set) {
			continue
		}
		defended := defendedIn(f, set)
		if isPart(set, defended) {
			all.admissible = append(all.admissible, set)
			if isPart(defended, set) {
				all.complete = append(all.complete, set)
			}
		}
		outside := slices.DeleteFunc(others(int(f.Count), -1), func(a int64) bool { return slices.Contains(set, a) })
		if !slices.ContainsFunc(outside, func(a int64) bool { return bothIn(attackersIn(f, a), set) == 0 }) {
			all.stable = append(all.stable, set)
		}
	}
	for _, set := range all.admissible {
		if !slices.ContainsFunc(all.admissible, func(other []int64) bool { return isPart(set, other) && len(set) < len(other) }) {
			all.preferred = append(all.preferred, set)
		}
	}
	return all
}

// grounded returns the complete set that is a part of all others.
func (s setsIn) grounded() []int64 {
	for _, set := range s.complete {
		if !slices.ContainsFunc(s.complete, func(other []int64) bool { return !isPart(set, other) }) {
			return set
		}
	}
	panic("no smallest complete set")
}

// ideal returns the largest one of the admissible sets that are parts of all preferred sets, and panics if it is not the only one.
func (s setsIn) ideal() []int64 {
	parts := slices.DeleteFunc(slices.Clone(s.admissible), func(set []int64) bool {
		return slices.ContainsFunc(s.preferred, func(other []int64) bool { return !isPart(set, other) })
	})
	for _, set := range parts {
		if !slices.ContainsFunc(parts, func(other []int64) bool { return !isPart(other, set) }) {
			return set
		}
	}
	panic("no largest set")
}

// standing tells how an argument stands.
func (s setsIn) standing(a int64) int64 {
	with := 0
	for _, set := range s.preferred {
		if slices.Contains(set, a) {
			with++
		}
	}
	switch {
	case slices.Contains(s.grounded(), a):
		return impl.StandSure
	case with == len(s.preferred):
		return impl.StandAll
	case with > 0:
		return impl.StandSome
	}
	return impl.StandNone
}

// defence returns the first one of the smallest admissible sets that contain an argument, and false if there is none.
func (s setsIn) defence(a int64) ([]int64, bool) {
	var least []int64
	for _, set := range s.admissible {
		if slices.Contains(set, a) && (least == nil || len(set) < len(least)) {
			least = set
		}
	}
	return least, least != nil
}

// roundsIn decides arguments round by round, as the document describes it.
func roundsIn(f impl.Frame) []int64 {
	rounds := make([]int64, f.Count)
	for round := int64(1); ; round++ {
		var accepted, rejected []int64
		for a := range f.Count {
			isRejected := func(b int64) bool { return rounds[b] < 0 }
			if rounds[a] == 0 && len(slices.DeleteFunc(attackersIn(f, a), isRejected)) == 0 {
				accepted = append(accepted, a)
			}
		}
		for _, a := range accepted {
			rounds[a] = round
		}
		for a := range f.Count {
			if rounds[a] == 0 && slices.ContainsFunc(attackersIn(f, a), func(b int64) bool { return rounds[b] > 0 }) {
				rejected = append(rejected, a)
			}
		}
		for _, a := range rejected {
			rounds[a] = -round
		}
		if len(accepted)+len(rejected) == 0 {
			return rounds
		}
	}
}

func acceptedIn(rounds []int64) []int64 {
	var accepted []int64
	for a, round := range rounds {
		if round > 0 {
			accepted = append(accepted, int64(a))
		}
	}
	return accepted
}

// strategy writes a strategy as its ranks and its replies.
func strategy(ranks, replies string) impl.Strategy {
	var s impl.Strategy
	for _, word := range strings.Fields(ranks) {
		s.Ranks = append(s.Ranks, integer(word))
	}
	for _, word := range strings.Fields(replies) {
		s.Replies = append(s.Replies, integer(word))
	}
	return s
}

func sameStrategy(a, b impl.Strategy) bool {
	return slices.Equal(a.Ranks, b.Ranks) && slices.Equal(a.Replies, b.Replies)
}

// expectStrategy is expect for strategies.
func expectStrategy(t *testing.T, what string, got impl.Strategy, ok bool, want impl.Strategy, wantOK bool) {
	t.Helper()
	if !sameStrategy(got, want) || ok != wantOK {
		t.Errorf("%s: got %v, %v, want %v, %v", what, got, ok, want, wantOK)
	}
}

// strategyIn returns the strategy that the document describes for an accepted argument.
func strategyIn(f impl.Frame, a int64) impl.Strategy {
	rounds := roundsIn(f)
	s := impl.Strategy{Ranks: make([]int64, f.Count), Replies: slices.Repeat([]int64{-1}, int(f.Count))}
	for _, x := range acceptedIn(rounds) {
		if rounds[x] <= rounds[a] {
			s.Ranks[x] = rounds[x]
		}
	}
	for y := range s.Replies {
		// The attackers with the greatest ranks and numbers are looked at first, so that the last one is the reply.
		for rank := f.Count; rank > 0; rank-- {
			for _, z := range slices.Backward(attackersIn(f, int64(y))) {
				if s.Ranks[z] == rank {
					s.Replies[y] = z
				}
			}
		}
	}
	return s
}

// isStrategyIn reports whether s is a strategy, for a valid frame.
func isStrategyIn(f impl.Frame, a int64, s impl.Strategy) bool {
	if a < 0 || a >= f.Count || len(s.Ranks) != int(f.Count) || len(s.Replies) != int(f.Count) {
		return false
	}
	for x := range f.Count {
		if s.Ranks[x] < 0 || s.Ranks[x] > f.Count || s.Replies[x] < -1 || s.Replies[x] >= f.Count {
			return false
		}
	}
	for _, attack := range f.Attacks {
		y, x := attack[0], attack[1]
		if s.Ranks[x] == 0 {
			continue
		}
		if z := s.Replies[y]; z == -1 || !attacksIn(f, z, y) || s.Ranks[z] == 0 || s.Ranks[z] >= s.Ranks[x] {
			return false
		}
	}
	return s.Ranks[a] != 0
}

// discussionIn returns a discussion, for a valid frame.
func discussionIn(f impl.Frame, a int64, s impl.Strategy, moves []int64) ([]int64, bool) {
	if !isStrategyIn(f, a, s) || len(moves) > impl.MaxArguments {
		return nil, false
	}
	list, last := []int64{a}, a
	for _, move := range moves {
		if !attacksIn(f, move, last) {
			return nil, false
		}
		last = s.Replies[move]
		list = append(list, move, last)
	}
	return list, true
}

// randomStrategy returns a strategy for an accepted argument, if there is one, in which few ranks and replies have been changed, or
// any ranks and replies.
func randomStrategy(random *rand.Rand, f impl.Frame) impl.Strategy {
	s := impl.Strategy{Ranks: make([]int64, f.Count), Replies: make([]int64, f.Count)}
	changes := 2 * int(f.Count)
	if accepted := acceptedIn(roundsIn(f)); len(accepted) > 0 && random.Intn(8) > 0 {
		s = strategyIn(f, accepted[random.Intn(len(accepted))])
		changes = random.Intn(4)
	}
	for range changes {
		x := random.Int63n(f.Count)
		if random.Intn(2) == 0 {
			s.Ranks[x] = random.Int63n(f.Count + 1)
		} else {
			s.Replies[x] = random.Int63n(f.Count+1) - 1
		}
	}
	return s
}
