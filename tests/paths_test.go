package tests

import (
	"fmt"
	"math/rand"
	"slices"
	"strings"
	"testing"

	"loop.example/g01095/impl"
)

// sequences returns all lists of at most so many numbers from -1 to members.
func sequences(members, most int) [][]int64 {
	lists := [][]int64{nil}
	for first, length := 0, 1; length <= most; length++ {
		for end := len(lists); first < end; first++ {
			for n := int64(-1); n <= int64(members); n++ {
				lists = append(lists, slices.Concat(lists[first], []int64{n}))
			}
		}
	}
	return lists
}

func checkPaths(t *testing.T, list []impl.Voice, lists [][]int64) {
	t.Helper()
	ranks := map[string][]int64{}
	for member := range list {
		for _, w := range walksFrom(list, int64(member)) {
			ranks[fmt.Sprint(w.path)] = w.ranks
		}
	}
	for _, path := range lists {
		want, isPath := ranks[fmt.Sprint(path)]
		if impl.IsPath(list, path) != isPath {
			t.Errorf("IsPath of %q, %v is %v", textOf(list), path, !isPath)
		}
		got, ok := impl.RanksOf(list, path)
		expectList(t, fmt.Sprintf("RanksOf of %q, %v", textOf(list), path), got, ok, want, isPath)
	}
}

// A list of numbers is a path exactly if it is among all paths.
func TestPathsOfAllShortLists(t *testing.T) {
	random := rand.New(rand.NewSource(22))
	for members := 1; members <= 3; members++ {
		lists := sequences(members, members+1)
		for _, list := range smallVoices(members) {
			checkPaths(t, list, lists)
		}
	}
	for _, members := range []int{4, 5} {
		lists := sequences(members, members)
		for range 30 {
			checkPaths(t, randomVoices(random, members, 3), lists)
		}
	}
}

func TestIsPathCases(t *testing.T) {
	for _, c := range []struct {
		text string
		path []int64
		want bool
	}{
		{"-1,2 -0 +", []int64{0, 2}, true}, {"-1,2 -0 +", []int64{1, 0, 2}, true}, {"-1,2 -0 +", []int64{2}, true},
		{"-1,2 -0 +", nil, false}, {"-1,2 -0 +", []int64{0}, false}, {"-1,2 -0 +", []int64{0, 1}, false}, {"-1,2 -0 +", []int64{1, 2}, false},
		{"-1,2 -0 +", []int64{0, 1, 0, 2}, false}, {"-1,2 -0 +", []int64{2, 2}, false}, {"-1,2 -0 +", []int64{2, 0}, false},
		{"+1 +", []int64{0, 1}, false}, {"+1 +", []int64{0}, true}, {"-1 +0", []int64{0, 1}, true}, {"-1 +0", []int64{1, 0}, false},
		{"-1 -2 +", []int64{0, 1, 2, 3}, false}, {"-1 +", []int64{0, 1, -1}, false}, {"-1 +", slices.Repeat([]int64{0, 1}, 50000), false},
		{longest, []int64{0, 1, 2, 3, 4, 5, 6, 7, 8, 9, 10, 11}, true}, {longest, []int64{9, 1, 3, 7, 11}, true}, {longest, []int64{11, 0}, false},
	} {
		if got := impl.IsPath(voices(c.text), c.path); got != c.want {
			t.Errorf("IsPath of %q, %.20v is %v", c.text, c.path, got)
		}
	}
}

func TestPathsOf(t *testing.T) {
	random := rand.New(rand.NewSource(23))
	lists := slices.Concat(smallVoices(1), smallVoices(2), smallVoices(3))
	for range 300 {
		lists = append(lists, randomVoices(random, 4+random.Intn(3), 2+random.Intn(3)))
	}
	lists = append(lists, voices("-1,2,3,4 -2,3,4,5 -3,4,5,0 -4,5,0,1 -5,0,1,2 +"))
	for _, list := range lists {
		for member := range list {
			var want [][]int64
			for _, w := range walksFrom(list, int64(member)) {
				want = append(want, w.path)
			}
			got, ok := impl.PathsOf(list, int64(member))
			expectLists(t, fmt.Sprintf("PathsOf of %q, %d", textOf(list), member), got, ok, want, true)
		}
	}
}

// The order is that of the ranks, not that of the members; a list may have MaxListed voices and no more.
func TestPathsOfCases(t *testing.T) {
	got, ok := impl.PathsOf(voices("-3,1 + -1 -1,2"), 0)
	expectLists(t, "paths by ranks", got, ok, [][]int64{{0, 3, 1}, {0, 3, 2, 1}, {0, 1}}, true)
	got, ok = impl.PathsOf(voices("-1 -2 -0"), 0)
	expectLists(t, "paths in a circle", got, ok, nil, true)
	six := strings.TrimSpace(strings.Repeat("+ ", impl.MaxListed))
	got, ok = impl.PathsOf(voices(six), 5)
	expectLists(t, "paths of 6 members", got, ok, [][]int64{{5}}, true)
	got, ok = impl.PathsOf(voices(six+" +"), 5)
	expectLists(t, "paths of 7 members", got, ok, nil, false)
	got, ok = impl.PathsOf(voices(longest), 0)
	expectLists(t, "paths of 12 members", got, ok, nil, false)
}

func TestComparePaths(t *testing.T) {
	random := rand.New(rand.NewSource(24))
	lists := [][]impl.Voice{voices("-1,2 -3 -4,5 -5 + +"), voices("-1,2,3 -2,4 -1,4 -4,5 +0 +")}
	for range 60 {
		lists = append(lists, randomVoices(random, 3+random.Intn(3), 3))
	}
	for _, list := range lists {
		var all []walk
		for member := range list {
			all = append(all, walksFrom(list, int64(member))...)
		}
		all = append(all, walk{}, walk{path: []int64{0, 0}}, walk{path: []int64{-1}}, walk{path: []int64{int64(len(list))}})
		for _, rule := range []int64{impl.RuleBreadth, impl.RuleSum, impl.RuleDepth, 3} {
			for _, a := range all {
				for _, b := range all {
					want, wantOK := 0, impl.IsPath(list, a.path) && impl.IsPath(list, b.path) && a.path[0] == b.path[0] && rule != 3
					if wantOK {
						want = compareWalks(rule, a, b)
					}
					got, ok := impl.ComparePaths(list, rule, a.path, b.path)
					expect(t, fmt.Sprintf("ComparePaths of %q by %d, %v, %v", textOf(list), rule, a.path, b.path), got, ok, int64(want), wantOK)
				}
			}
		}
	}
}

// Each case names the best path from member 0 by RuleBreadth, RuleSum and RuleDepth.
func TestPathOfCases(t *testing.T) {
	for _, c := range []struct {
		name, text          string
		breadth, sum, depth []int64
	}{
		{"the rules differ", "-1,2,3 -5 -3 + -3 -4", []int64{0, 3}, []int64{0, 2, 3}, []int64{0, 1, 5, 4, 3}},
		{"equal sums of different lengths", "-1,2,3 -4 -6 -6 -5 + +", []int64{0, 2, 6}, []int64{0, 1, 4, 5}, []int64{0, 1, 4, 5}},
		{"equal lengths, then ranks", "-1,2 -3 -3 +", []int64{0, 1, 3}, []int64{0, 1, 3}, []int64{0, 1, 3}},
		{"equal lengths, the sum greater", "-1,2 -4,5,3 -3 + - -", []int64{0, 1, 3}, []int64{0, 2, 3}, []int64{0, 1, 3}},
		{"equal lengths, members against ranks", "-2,1 -3 -4 + +", []int64{0, 2, 4}, []int64{0, 2, 4}, []int64{0, 2, 4}},
		{"equal sums, the longer first by ranks", "-1,2 -2 +", []int64{0, 2}, []int64{0, 1, 2}, []int64{0, 1, 2}},
		{"equal sums, later ranks decide", "-1 -2,3 -3 +", []int64{0, 1, 3}, []int64{0, 1, 2, 3}, []int64{0, 1, 2, 3}},
		{"a long way back by depth", "-1,2 -2 -1,3 +", []int64{0, 2, 3}, []int64{0, 1, 2, 3}, []int64{0, 1, 2, 3}},
		{"a first choice without an end", "-1,2 -3 + -1", []int64{0, 2}, []int64{0, 2}, []int64{0, 2}},
		{"a first choice that leads back", "-1,2 -0 -1,3 +", []int64{0, 2, 3}, []int64{0, 2, 3}, []int64{0, 2, 3}},
		{"a speaker who trusts", "+1 +0", []int64{0}, []int64{0}, []int64{0}},
		{"a speaker who trusts the first one", "-1 +2,0 +", []int64{0, 1}, []int64{0, 1}, []int64{0, 1}},
		{"a silent member", "- +", nil, nil, nil},
		{"trust in a silent member", "-1 - +", nil, nil, nil},
		{"only one another", "-1 -0 +", nil, nil, nil},
		{"a circle of three", "-1 -2 -0 +", nil, nil, nil},
		{"nobody speaks", "-1,2 -0,2 -0,1", nil, nil, nil},
	} {
		for rule, want := range [][]int64{c.breadth, c.sum, c.depth} {
			got, ok := impl.PathOf(voices(c.text), int64(rule), 0)
			expectList(t, fmt.Sprintf("%s: PathOf of %q by %d", c.name, c.text, rule), got, ok, want, want != nil)
		}
	}
	for rule, want := range [][]int64{{0, 3, 7, 11}, {0, 1, 2, 3, 4, 5, 6, 7, 8, 9, 10, 11}, {0, 1, 2, 3, 4, 5, 6, 7, 8, 9, 10, 11}} {
		got, ok := impl.PathOf(voices(longest), int64(rule), 0)
		expectList(t, fmt.Sprint("PathOf of the longest list by ", rule), got, ok, want, true)
	}
}

// The best path is the first one of all when they are sorted by the rule.
func TestPathOfIsBest(t *testing.T) {
	random := rand.New(rand.NewSource(25))
	lists := slices.Concat(smallVoices(1), smallVoices(2), smallVoices(3))
	for range 3000 {
		lists = append(lists, randomVoices(random, 4+random.Intn(4), 2+random.Intn(6)))
	}
	for range 60 {
		lists = append(lists, randomVoices(random, impl.MaxMembers, 4+random.Intn(5)))
	}
	for _, list := range lists {
		for _, rule := range rules() {
			for member := range list {
				want := bestWalk(list, rule, int64(member))
				got, ok := impl.PathOf(list, rule, int64(member))
				expectList(t, fmt.Sprintf("PathOf of %q by %d, %d", textOf(list), rule, member), got, ok, want, want != nil)
			}
		}
	}
}
