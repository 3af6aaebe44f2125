package tests

import (
	"fmt"
	"math"
	"math/rand"
	"slices"
	"testing"

	"loop.example/g01095/impl"
)

func TestStrategyFor(t *testing.T) {
	for _, f := range append(sampleFrames(170, 2000), fullFrame(), frame("10"), frame(chain)) {
		accepted := acceptedIn(roundsIn(f))
		for a := int64(-1); a <= f.Count; a++ {
			what := fmt.Sprintf("StrategyFor %q, %d", frameText(f), a)
			got, ok := impl.StrategyFor(f, a)
			if !slices.Contains(accepted, a) {
				expectStrategy(t, what, got, ok, impl.Strategy{}, false)
				continue
			}
			expectStrategy(t, what, got, ok, strategyIn(f, a), true)
			if !impl.IsStrategy(f, a, got) {
				t.Errorf("%s: %v is no strategy", what, got)
			}
		}
	}
}

func TestStrategyForCases(t *testing.T) {
	for _, c := range []struct {
		name, text     string
		a              int64
		ranks, replies string
		ok             bool
	}{
		{"no arguments", "0", 0, "", "", false},
		{"one argument", "1", 0, "1", "-1", true},
		{"an argument that attacks itself", "1 0>0", 0, "", "", false},
		{"the document's second example", "3 0>1 1>2", 2, "1 0 2", "-1 0 -1", true},
		{"an argument with no attacker, which replies to others all the same", "3 0>1 1>2", 0, "1 0 0", "-1 0 -1", true},
		{"a rejected argument", "3 0>1 1>2", 1, "", "", false},
		{"an argument that is never decided", "2 0>1 1>0", 0, "", "", false},
		{"an argument that all preferred sets have, and that is not accepted", "2 0>0 0>1 1>0", 1, "", "", false},
		{"arguments that are accepted later have the rank 0", "5 0>1 1>2 2>3 3>4", 2, "1 0 2 0 0", "-1 0 -1 2 -1", true},
		{"arguments that are accepted in the same round have their rank", "5 0>1 0>2 1>3 2>4", 3, "1 0 0 2 2", "-1 0 0 -1 -1", true},
		{"accepted arguments that have nothing to do with it have their rank", "4 0>1", 3, "1 0 1 1", "-1 0 -1 -1", true},
		{"the longest chain", chain, 8, "1 0 2 0 3 0 4 0 5 0", "-1 0 -1 2 -1 4 -1 6 -1 8", true},
		{"the longest chain, up to the middle", chain, 4, "1 0 2 0 3 0 0 0 0 0", "-1 0 -1 2 -1 4 -1 -1 -1 -1", true},
		{"several replies, the least one of which counts", "4 0>3 1>3 2>3", 1, "1 1 1 0", "-1 -1 -1 0", true},
		{"several replies, the one with the least rank counts", "5 0>4 1>0 2>1 3>4", 0, "2 0 1 1 0", "-1 2 -1 -1 3", true},
		{"a reply with a greater number and a lesser rank", "5 0>4 1>0 2>1 2>4", 0, "2 0 1 1 0", "-1 2 -1 -1 2", true},
		{"a reply is not one that is accepted later", "6 0>1 1>2 2>3 3>4 4>5 5>3", 0, "1 0 0 0 0 0", "-1 0 -1 -1 -1 -1", true},
		{"a reply to an argument that is never decided", "4 0>1 1>2 2>3 3>2", 0, "1 0 0 0", "-1 0 -1 -1", true},
		{"no reply is chosen among arguments that are not accepted", "4 1>2 2>1 2>3 3>3", 0, "1 0 0 0", "-1 -1 -1 -1", true},
		{"a negative argument", "2", -1, "", "", false},
		{"the argument behind the last one", "2", 2, "", "", false},
		{"a far argument", "2", math.MaxInt64, "", "", false},
		{"a far negative argument", "2", math.MinInt64, "", "", false},
	} {
		got, ok := impl.StrategyFor(frame(c.text), c.a)
		expectStrategy(t, c.name, got, ok, strategy(c.ranks, c.replies), c.ok)
	}
}

// lists returns all lists of so many numbers from least to most.
func lists(length int, least, most int64) [][]int64 {
	all := [][]int64{nil}
	for range length {
		var longer [][]int64
		for _, list := range all {
			for n := least; n <= most; n++ {
				longer = append(longer, append(slices.Clone(list), n))
			}
		}
		all = longer
	}
	return all
}

// An argument is in the grounded set exactly if it has a strategy. All strategies are tried, also with numbers just beyond the
// bounds, which no strategy has.
func TestGroundedArgumentsAreThoseWithAStrategy(t *testing.T) {
	for count := range int64(3) {
		ranks, replies := lists(int(count), -1, count+1), lists(int(count), -2, count)
		for _, f := range smallFrames(count) {
			checkAllStrategies(t, f, others(int(count), -1), ranks, replies)
		}
	}
}

// The arguments of a frame can be numbered anew, so that it is enough to look at the first one.
func TestGroundedArgumentsOfThreeAreThoseWithAStrategy(t *testing.T) {
	ranks, replies := lists(3, 0, 3), lists(3, -1, 2)
	for _, f := range smallFrames(3) {
		checkAllStrategies(t, f, []int64{0}, ranks, replies)
	}
}

func checkAllStrategies(t *testing.T, f impl.Frame, arguments []int64, ranks, replies [][]int64) {
	t.Helper()
	grounded, _ := impl.GroundedSet(f)
	for _, a := range arguments {
		found := false
		for _, some := range ranks {
			for _, list := range replies {
				s := impl.Strategy{Ranks: some, Replies: list}
				is := impl.IsStrategy(f, a, s)
				if is != isStrategyIn(f, a, s) {
					t.Errorf("IsStrategy of %q, %d, %v is %v", frameText(f), a, s, is)
				}
				found = found || is
			}
		}
		if found != slices.Contains(grounded, a) {
			t.Errorf("%q: the grounded set is %v, and argument %d has a strategy: %v", frameText(f), grounded, a, found)
		}
	}
}

func TestIsStrategyOfRandomOnes(t *testing.T) {
	random := rand.New(rand.NewSource(171))
	counts := map[bool]int{}
	for range 20000 {
		f := randomFrame(random)
		s := randomStrategy(random, f)
		grounded := acceptedIn(roundsIn(f))
		for a := int64(-1); a <= f.Count; a++ {
			want := isStrategyIn(f, a, s)
			if got := impl.IsStrategy(f, a, s); got != want {
				t.Errorf("IsStrategy of %q, %d, %v is %v", frameText(f), a, s, got)
			}
			if want && !slices.Contains(grounded, a) {
				t.Errorf("%q: argument %d has the strategy %v and is not in the grounded set", frameText(f), a, s)
			}
			counts[want]++
		}
	}
	if min(counts[true], counts[false]) < 10000 {
		t.Errorf("strategies and others: %v", counts)
	}
}

func TestIsStrategyCases(t *testing.T) {
	const example = "5 0>1 1>2 2>3 3>4"
	for _, c := range []struct {
		name, text     string
		a              int64
		ranks, replies string
		want           bool
	}{
		{"the strategy of the document's second example", "3 0>1 1>2", 2, "1 0 2", "-1 0 -1", true},
		{"the same one, for another argument", "3 0>1 1>2", 0, "1 0 2", "-1 0 -1", true},
		{"the same one, for an argument with the rank 0", "3 0>1 1>2", 1, "1 0 2", "-1 0 -1", false},
		{"the strategy for another argument", "3 0>1 1>2", 2, "1 0 0", "-1 0 -1", false},
		{"no arguments", "0", 0, "", "", false},
		{"one argument", "1", 0, "1", "-1", true},
		{"one argument, with a reply that nobody asks for", "1", 0, "1", "0", true},
		{"one argument that attacks itself", "1 0>0", 0, "1", "0", false},
		{"one argument that attacks itself, without a reply", "1 0>0", 0, "1", "-1", false},
		{"the greatest ranks", example, 4, "3 0 4 0 5", "-1 0 -1 2 -1", true},
		{"a rank just beyond its bound", example, 4, "3 0 4 0 6", "-1 0 -1 2 -1", false},
		{"a rank just beyond its bound that does not matter", "3", 0, "1 4 0", "-1 -1 -1", false},
		{"the greatest rank where it does not matter", "3", 0, "1 3 0", "-1 -1 -1", true},
		{"a rank of -1", example, 4, "1 -1 2 0 3", "-1 0 -1 2 -1", false},
		{"a rank of -1 that does not matter", "3", 0, "1 0 -1", "-1 -1 -1", false},
		{"the argument has the rank -1", "1", 0, "-1", "-1", false},
		{"a reply that is the last argument", "3 0>1 1>0 2>1", 0, "2 0 1", "-1 2 -1", true},
		{"a reply just beyond its bound", "3 0>1 1>0 2>1", 0, "2 0 1", "-1 3 -1", false},
		{"a reply just beyond its bound that does not matter", "3", 0, "1 1 1", "-1 -1 3", false},
		{"the last argument as a reply that does not matter", "3", 0, "1 1 1", "-1 -1 2", true},
		{"a reply of -2 that does not matter", "3", 0, "1 1 1", "-1 -2 -1", false},
		{"no reply where one is needed", example, 4, "1 0 2 0 3", "-1 -1 -1 2 -1", false},
		{"a reply of -2 where one is needed", example, 4, "1 0 2 0 3", "-1 -2 -1 2 -1", false},
		{"no reply to an attacker of an argument with the rank 0", example, 0, "1 0 0 0 0", "-1 -1 -1 -1 -1", true},
		{"a reply that does not attack", example, 4, "1 0 2 0 3", "-1 0 -1 0 -1", false},
		{"a reply that attacks the argument instead", "3 0>1 1>2", 2, "1 0 2", "-1 1 -1", false},
		{"a reply that the attacker attacks, and that does not attack it", "4 1>0 1>2 3>1", 0, "2 0 1 1", "-1 2 -1 -1", false},
		{"a reply that has the rank 0", example, 4, "0 0 2 0 3", "-1 0 -1 2 -1", false},
		{"a reply with the same rank", example, 4, "2 0 2 0 3", "-1 0 -1 2 -1", false},
		{"a reply with a greater rank", example, 4, "4 0 2 0 5", "-1 0 -1 2 -1", false},
		{"a later reply with the same rank", example, 4, "1 0 2 0 2", "-1 0 -1 2 -1", false},
		{"a reply with a rank that is less by more than 1", example, 4, "1 0 3 0 5", "-1 0 -1 2 -1", true},
		{"one of two attackers has no reply", "5 0>2 1>2 3>0", 2, "0 0 2 1 0", "3 -1 -1 -1 -1", false},
		{"both attackers have a reply", "5 0>2 1>2 3>0 4>1", 2, "0 0 2 1 1", "3 4 -1 -1 -1", true},
		{"both attackers have the same reply", "4 0>2 1>2 3>0 3>1", 2, "0 0 2 1", "3 3 -1 -1", true},
		{"an argument that has nothing to do with it has a rank and is not defended", "5 0>1 1>2 3>4", 2, "1 0 2 0 3", "-1 0 -1 -1 -1", false},
		{"an argument that replies to itself", "2 0>1 1>0", 0, "1 0", "-1 0", false},
		{"two arguments that attack each other, both with a rank", "2 0>1 1>0", 0, "2 1", "1 0", false},
		{"an argument of an even circle", "4 0>1 1>2 2>3 3>0", 0, "1 0 2 0", "-1 0 -1 2", false},
		{"too few ranks", "3", 0, "1 1", "-1 -1 -1", false},
		{"too many ranks", "3", 0, "1 1 1 1", "-1 -1 -1", false},
		{"too few replies", "3", 0, "1 1 1", "-1 -1", false},
		{"too many replies", "3", 0, "1 1 1", "-1 -1 -1 -1", false},
		{"too few of both", "3", 0, "1 1", "-1 -1", false},
		{"too many of both", "3", 0, "1 1 1 1", "-1 -1 -1 -1", false},
		{"no ranks", "3", 0, "", "-1 -1 -1", false},
		{"no replies", "3", 0, "1 1 1", "", false},
		{"neither", "3", 0, "", "", false},
		{"a negative argument", "3", -1, "1 1 1", "-1 -1 -1", false},
		{"the argument behind the last one", "3", 3, "1 1 1", "-1 -1 -1", false},
		{"a far argument", "3", math.MaxInt64, "1 1 1", "-1 -1 -1", false},
		{"a far negative argument", "3", math.MinInt64, "1 1 1", "-1 -1 -1", false},
		{"an argument beyond bits", "3", 1 << 32, "1 1 1", "-1 -1 -1", false},
		{"a far rank", "3", 0, "1 1 9223372036854775807", "-1 -1 -1", false},
		{"a far negative rank", "3", 0, "1 1 -9223372036854775808", "-1 -1 -1", false},
		{"a far reply", "3", 0, "1 1 1", "-1 -1 9223372036854775807", false},
		{"a far negative reply", "3", 0, "1 1 1", "-1 -1 -9223372036854775808", false},
		{"a reply beyond bits", "3 0>1 1>0 2>1", 0, "2 0 1", "-1 4294967298 -1", false},
	} {
		f, s := frame(c.text), strategy(c.ranks, c.replies)
		if got := impl.IsStrategy(f, c.a, s); got != c.want {
			t.Errorf("%s: IsStrategy is %v", c.name, got)
		}
		// There is a discussion exactly if there is a strategy.
		var want []int64
		if c.want {
			want = []int64{c.a}
		}
		got, ok := impl.Discuss(f, c.a, s, nil)
		expectList(t, c.name+": Discuss", got, ok, want, c.want)
	}
}

// Whoever attacks the last argument of a discussion is answered, until nobody does.
func TestDiscussionsAreWon(t *testing.T) {
	longest := 0
	for _, f := range append(sampleFrames(172, 1000), frame(chain), frame("9 1>0 2>1 3>2 4>3 5>4 6>5 7>6 8>7")) {
		for _, a := range acceptedIn(roundsIn(f)) {
			s, _ := impl.StrategyFor(f, a)
			longest = max(longest, checkDiscussions(t, f, a, s, nil))
		}
	}
	if longest != 4 {
		t.Errorf("the longest discussion has %d moves", longest)
	}
}

// checkDiscussions checks all discussions that go on after some moves, and returns how many moves the longest one has.
func checkDiscussions(t *testing.T, f impl.Frame, a int64, s impl.Strategy, moves []int64) int {
	t.Helper()
	what := fmt.Sprintf("Discuss %q, %d, %v, %v", frameText(f), a, s, moves)
	got, ok := impl.Discuss(f, a, s, moves)
	want, _ := discussionIn(f, a, s, moves)
	expectList(t, what, got, ok, want, true)
	if len(want) != 1+2*len(moves) || len(moves) > impl.MaxArguments {
		t.Errorf("%s: the discussion does not go on as it should", what)
		return len(moves)
	}
	longest := len(moves)
	for next := int64(-1); next <= f.Count; next++ {
		longer := append(slices.Clone(moves), next)
		if next >= 0 && attacksIn(f, next, want[len(want)-1]) {
			longest = max(longest, checkDiscussions(t, f, a, s, longer))
			continue
		}
		got, ok := impl.Discuss(f, a, s, longer)
		expectList(t, fmt.Sprintf("%s and %d", what, next), got, ok, nil, false)
	}
	return longest
}

func TestDiscussRandomMoves(t *testing.T) {
	random := rand.New(rand.NewSource(173))
	count := 0
	for range 30000 {
		f := randomFrame(random)
		s := randomStrategy(random, f)
		a := random.Int63n(f.Count)
		if random.Intn(4) > 0 {
			a = int64(slices.Index(s.Ranks, slices.Max(s.Ranks)))
		}
		var moves []int64
		for list, ok := discussionIn(f, a, s, moves); ok && random.Intn(5) > 0; list, ok = discussionIn(f, a, s, moves) {
			attackers := attackersIn(f, list[len(list)-1])
			if random.Intn(8) == 0 {
				moves = append(moves, random.Int63n(f.Count+2)-1)
			} else if len(attackers) > 0 {
				moves = append(moves, attackers[random.Intn(len(attackers))])
			}
		}
		want, isDiscussion := discussionIn(f, a, s, moves)
		got, ok := impl.Discuss(f, a, s, moves)
		expectList(t, fmt.Sprintf("Discuss %q, %d, %v, %v", frameText(f), a, s, moves), got, ok, want, isDiscussion)
		if isDiscussion && len(moves) > 0 {
			count++
		}
	}
	if count < 1000 {
		t.Errorf("only %d of the discussions have moves", count)
	}
}

func TestDiscussCases(t *testing.T) {
	const (
		long    = "10 1>0 2>1 3>2 4>3 5>4 6>5 7>6 8>7"
		ranks   = "5 0 4 0 3 0 2 0 1 0"
		replies = "-1 2 -1 4 -1 6 -1 8 -1 -1"
		both    = "5 0>2 1>2 3>0 4>1"
	)
	for _, c := range []struct {
		name, text     string
		a              int64
		ranks, replies string
		moves          []int64
		want           []int64
	}{
		{"without moves", "1", 0, "1", "-1", nil, []int64{0}},
		{"with an empty list of moves", "3 0>1 1>2", 2, "1 0 2", "-1 0 -1", []int64{}, []int64{2}},
		{"the document's second example", "3 0>1 1>2", 2, "1 0 2", "-1 0 -1", []int64{1}, []int64{2, 1, 0}},
		{"the greatest number of moves", long, 0, ranks, replies, []int64{1, 3, 5, 7}, []int64{0, 1, 2, 3, 4, 5, 6, 7, 8}},
		{"one move more", long, 0, ranks, replies, []int64{1, 3, 5, 7, 9}, nil},
		{"one move more that has been made before", long, 0, ranks, replies, []int64{1, 3, 5, 7, 7}, nil},
		{"MaxArguments moves", long, 0, ranks, replies, []int64{1, 3, 5, 7, 1, 3, 5, 7, 1, 3}, nil},
		{"one more than MaxArguments moves", long, 0, ranks, replies, []int64{1, 3, 5, 7, 1, 3, 5, 7, 1, 3, 5}, nil},
		{"the beginning of it", long, 0, ranks, replies, []int64{1, 3}, []int64{0, 1, 2, 3, 4}},
		{"from another argument", long, 4, ranks, replies, []int64{5, 7}, []int64{4, 5, 6, 7, 8}},
		{"a move that does not attack", long, 0, ranks, replies, []int64{3}, nil},
		{"a later move that does not attack", long, 0, ranks, replies, []int64{1, 5}, nil},
		{"a move that is the argument itself", long, 0, ranks, replies, []int64{0}, nil},
		{"a move that is attacked instead", long, 2, ranks, replies, []int64{1}, nil},
		{"a move that attacks an argument before", both, 2, "0 0 2 1 1", "3 4 -1 -1 -1", []int64{0, 1}, nil},
		{"the first one of two attackers", both, 2, "0 0 2 1 1", "3 4 -1 -1 -1", []int64{0}, []int64{2, 0, 3}},
		{"the second one of two attackers", both, 2, "0 0 2 1 1", "3 4 -1 -1 -1", []int64{1}, []int64{2, 1, 4}},
		{"a move that attacks itself, too", "3 0>1 1>1 1>2", 2, "1 0 2", "-1 0 -1", []int64{1}, []int64{2, 1, 0}},
		{"a negative move", "3 0>1 1>2", 2, "1 0 2", "-1 0 -1", []int64{-1}, nil},
		{"the argument behind the last one as a move", "3 0>1 1>2", 2, "1 0 2", "-1 0 -1", []int64{3}, nil},
		{"a far move", "3 0>1 1>2", 2, "1 0 2", "-1 0 -1", []int64{math.MaxInt64}, nil},
		{"a far negative move", "3 0>1 1>2", 2, "1 0 2", "-1 0 -1", []int64{math.MinInt64}, nil},
		{"a move beyond bits", "3 0>1 1>2", 2, "1 0 2", "-1 0 -1", []int64{1<<32 + 1}, nil},
		{"the moves of another argument's discussion", "3 0>1 1>2", 0, "1 0 2", "-1 0 -1", []int64{1}, nil},
		{"no strategy for the argument", "3 0>1 1>2", 1, "1 0 2", "-1 0 -1", []int64{0}, nil},
		{"no strategy for the argument, without moves", "3 0>1 1>2", 1, "1 0 2", "-1 0 -1", nil, nil},
		{"no strategy, without a move that shows it", "3 0>1 1>2", 2, "1 0 2", "-1 -1 -1", nil, nil},
		{"no strategy, because of an argument that does not come up", "5 0>1 1>2 3>4", 2, "1 0 2 0 3", "-1 0 -1 -1 -1", []int64{1}, nil},
		{"a strategy that is not the one of StrategyFor", "4 0>1 1>2 3>1", 2, "1 0 4 3", "-1 3 -1 -1", []int64{1}, []int64{2, 1, 3}},
	} {
		got, ok := impl.Discuss(frame(c.text), c.a, strategy(c.ranks, c.replies), c.moves)
		expectList(t, c.name, got, ok, c.want, c.want != nil)
	}
}
