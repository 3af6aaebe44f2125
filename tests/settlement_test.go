package tests

import (
	"fmt"
	"math/rand"
	"slices"
	"testing"

	"loop.example/g01095/impl"
)

// settledLists are lists for the tests of settlement: all small ones, and random ones of all sizes.
func settledLists(seed int64) [][]impl.Voice {
	random := rand.New(rand.NewSource(seed))
	lists := slices.Concat(smallVoices(1), smallVoices(2), smallVoices(3))
	for range 400 {
		lists = append(lists, randomVoices(random, 4+random.Intn(3), 1+random.Intn(6)))
	}
	for range 100 {
		lists = append(lists, randomVoices(random, 7+random.Intn(6), 4+random.Intn(3)))
	}
	return append(lists, voices(longest))
}

// No ballot is lost that has a path, and none is counted twice.
func TestSettlement(t *testing.T) {
	for _, list := range settledLists(26) {
		for _, rule := range rules() {
			settled, weights, lost := make([]int64, len(list)), make([]int64, len(list)), []int64(nil)
			for member := range list {
				settled[member] = -1
				if path := bestWalk(list, rule, int64(member)); path != nil {
					settled[member] = path[len(path)-1]
					weights[settled[member]]++
				} else {
					lost = append(lost, int64(member))
				}
			}
			what := fmt.Sprintf(" of %q by %d", textOf(list), rule)
			got, ok := impl.SettleVoices(list, rule)
			expectList(t, "SettleVoices"+what, got, ok, settled, true)
			got, ok = impl.WeightsOf(list, rule)
			expectList(t, "WeightsOf"+what, got, ok, weights, true)
			got, ok = impl.LostMembers(list)
			expectList(t, "LostMembers"+what, got, ok, lost, true)
		}
	}
}

func TestSettlementCases(t *testing.T) {
	for _, c := range []struct {
		name, text             string
		settled, weights, lost []int64
	}{
		{"the document's example", "-1,2 -0 +", []int64{2, 2, 2}, []int64{0, 0, 3}, nil},
		{"one who speaks", "+", []int64{0}, []int64{1}, nil},
		{"one who is silent", "-", []int64{-1}, []int64{0}, []int64{0}},
		{"speakers trust each other", "+1 +0", []int64{0, 1}, []int64{1, 1}, nil},
		{"silent ones trust each other", "-1 -0", []int64{-1, -1}, []int64{0, 0}, []int64{0, 1}},
		{"a circle beside a speaker", "-1 -2 -0 + -3", []int64{-1, -1, -1, 3, 3}, []int64{0, 0, 0, 2, 0}, []int64{0, 1, 2}},
		{"a way out of a circle", "-1 -2 -0,3 +", []int64{3, 3, 3, 3}, []int64{0, 0, 0, 4}, nil},
		{"a silent member in between", "-1 - +", []int64{-1, -1, 2}, []int64{0, 0, 1}, []int64{0, 1}},
		{"nobody speaks", "-1,2 -0,2 -0,1", []int64{-1, -1, -1}, []int64{0, 0, 0}, []int64{0, 1, 2}},
	} {
		for _, rule := range rules() {
			settled, ok := impl.SettleVoices(voices(c.text), rule)
			expectList(t, c.name+": SettleVoices", settled, ok, c.settled, true)
			weights, ok := impl.WeightsOf(voices(c.text), rule)
			expectList(t, c.name+": WeightsOf", weights, ok, c.weights, true)
			lost, ok := impl.LostMembers(voices(c.text))
			expectList(t, c.name+": LostMembers", lost, ok, c.lost, true)
		}
	}
}

func TestPassingThrough(t *testing.T) {
	for _, list := range settledLists(27) {
		for _, rule := range rules() {
			through := make([][]int64, len(list))
			for from := range list {
				for _, member := range bestWalk(list, rule, int64(from)) {
					through[member] = append(through[member], int64(from))
				}
			}
			for member, want := range through {
				got, ok := impl.PassingThrough(list, rule, int64(member))
				expectList(t, fmt.Sprintf("PassingThrough of %q by %d, %d", textOf(list), rule, member), got, ok, want, true)
			}
		}
	}
}

// A member that falls silent takes no path away but those that contain it.
func TestSilenceTakesNoOtherPath(t *testing.T) {
	for _, list := range settledLists(28) {
		for member := range list {
			silent, ok := impl.SilenceMember(list, int64(member))
			if !ok || silent[member].Speaks || len(silent[member].Trust) > 0 {
				t.Fatalf("SilenceMember of %q, %d: got %q, %v", textOf(list), member, textOf(silent), ok)
			}
			for _, rule := range rules() {
				through, _ := impl.PassingThrough(list, rule, int64(member))
				for other := range int64(len(list)) {
					before, had := impl.PathOf(list, rule, other)
					after, has := impl.PathOf(silent, rule, other)
					if !slices.Contains(through, other) {
						expectList(t, fmt.Sprintf("PathOf %d by %d when %d of %q is silent", other, rule, member, textOf(list)), after, has, before, had)
					} else if slices.Contains(after, int64(member)) {
						t.Errorf("PathOf %d by %d when %d of %q is silent: got %v", other, rule, member, textOf(list), after)
					}
				}
			}
		}
	}
}

// circlesOf follows first trust from each member as often as there are members, and keeps the circles that end there.
func circlesOf(list []impl.Voice) [][]int64 {
	var circles [][]int64
	for start := range list {
		circle, at := []int64{}, int64(start)
		for range list {
			if list[at].Speaks || len(list[at].Trust) == 0 {
				break
			}
			circle = append(circle, at)
			at = list[at].Trust[0]
			if at == int64(start) {
				break
			}
		}
		if len(circle) > 1 && at == int64(start) && slices.Min(circle) == at {
			circles = append(circles, circle)
		}
	}
	return circles
}

func TestFirstCircles(t *testing.T) {
	for _, list := range settledLists(29) {
		got, ok := impl.FirstCircles(list)
		expectLists(t, fmt.Sprintf("FirstCircles of %q", textOf(list)), got, ok, circlesOf(list), true)
	}
}

func TestFirstCirclesCases(t *testing.T) {
	for _, c := range []struct {
		name, text string
		want       [][]int64
	}{
		{"the document's example", "-1,2 -0 +", [][]int64{{0, 1}}},
		{"a speaker in the circle", "-1 +0", nil},
		{"the second trust", "-2,1 -0 -", nil},
		{"nobody trusted", "- -0", nil},
		{"a way into a circle", "-1 -2 -1", [][]int64{{1, 2}}},
		{"a way into a circle of lesser members", "-1 -0 -0 -2", [][]int64{{0, 1}}},
		{"two circles", "-3 -2 -1 -0", [][]int64{{0, 3}, {1, 2}}},
		{"a circle that descends", "-2 -0 -1", [][]int64{{0, 2, 1}}},
		{"all members", "-1 -2 -3 -4 -5 -6 -7 -8 -9 -10 -11 -0", [][]int64{{0, 1, 2, 3, 4, 5, 6, 7, 8, 9, 10, 11}}},
		{"six circles", "-1 -0 -3 -2 -5 -4 -7 -6 -9 -8 -11 -10", [][]int64{{0, 1}, {2, 3}, {4, 5}, {6, 7}, {8, 9}, {10, 11}}},
	} {
		got, ok := impl.FirstCircles(voices(c.text))
		expectLists(t, c.name, got, ok, c.want, true)
	}
}
