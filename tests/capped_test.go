package tests

import (
	"cmp"
	"fmt"
	"math/bits"
	"math/rand"
	"slices"
	"testing"

	"loop.example/g01095/impl"
)

// lessSettled compares two settlements in which -1 is greater than every member.
func lessSettled(a, b []int64) int {
	return slices.CompareFunc(a, b, func(x, y int64) int { return cmp.Compare(uint64(x), uint64(y)) })
}

func countSettled(settled []int64) (count int64) {
	for _, end := range settled {
		if end >= 0 {
			count++
		}
	}
	return count
}

// bestCapped tries all settlements with a limit.
func bestCapped(list []impl.Voice, limit int64) []int64 {
	var best []int64
	settled, room := make([]int64, len(list)), slices.Repeat([]int64{limit}, len(list))
	var settle func(member int)
	settle = func(member int) {
		if member == len(list) {
			if c := cmp.Compare(countSettled(settled), countSettled(best)); best == nil || c > 0 || c == 0 && lessSettled(settled, best) < 0 {
				best = slices.Clone(settled)
			}
			return
		}
		if settled[member] = -1; !list[member].Speaks {
			settle(member + 1)
		}
		for _, end := range endsOfWalks(list, int64(member)) {
			if room[end] > 0 {
				room[end]--
				settled[member] = end
				settle(member + 1)
				room[end]++
			}
		}
	}
	settle(0)
	return best
}

// bestProof tries all sets of members, and returns the difference, too.
func bestProof(list []impl.Voice, limit int64) ([]int64, int64) {
	ends := make([]uint, len(list))
	for member := range list {
		for _, end := range endsOfWalks(list, int64(member)) {
			ends[member] |= 1 << end
		}
	}
	proof, most := []int64(nil), int64(0)
	for set := range uint(1) << len(list) {
		var members []int64
		var reached uint
		for member := range list {
			if set>>member&1 == 1 {
				members = append(members, int64(member))
				reached |= ends[member]
			}
		}
		difference := int64(len(members)) - limit*int64(bits.OnesCount(reached))
		if c := cmp.Or(cmp.Compare(most, difference), cmp.Compare(len(members), len(proof)), slices.Compare(members, proof)); c < 0 {
			proof, most = members, difference
		}
	}
	return proof, most
}

func checkProof(t *testing.T, list []impl.Voice, limit int64) {
	t.Helper()
	what := fmt.Sprintf(" of %q with the limit %d", textOf(list), limit)
	want, difference := bestProof(list, limit)
	proof, ok := impl.CapProof(list, limit)
	expectList(t, "CapProof"+what, proof, ok, want, true)
	settled, ok := impl.CappedSettlement(list, limit)
	if !ok || len(settled) != len(list) || int64(len(list))-countSettled(settled) != difference {
		t.Fatalf("CappedSettlement%s: got %v, %v, but %d ballots are not settled", what, settled, ok, difference)
	}
	taken := map[int64]int64{}
	for member, end := range settled {
		if list[member].Speaks && end != int64(member) || end != -1 && !slices.Contains(endsOfWalks(list, int64(member)), end) {
			t.Errorf("CappedSettlement%s: in %v, member %d is settled with %d", what, settled, member, end)
		}
		if taken[end]++; end != -1 && taken[end] > limit {
			t.Errorf("CappedSettlement%s: in %v, too many ballots are settled with %d", what, settled, end)
		}
	}
}

func checkCapped(t *testing.T, list []impl.Voice, limit int64) {
	t.Helper()
	settled, ok := impl.CappedSettlement(list, limit)
	expectList(t, fmt.Sprintf("CappedSettlement of %q with the limit %d", textOf(list), limit), settled, ok, bestCapped(list, limit), true)
	checkProof(t, list, limit)
}

func TestCappedSmallLists(t *testing.T) {
	random := rand.New(rand.NewSource(30))
	lists := slices.Concat(smallVoices(1), smallVoices(2), smallVoices(3))
	for range 800 {
		lists = append(lists, randomVoices(random, 4+random.Intn(4), 1+random.Intn(4)))
	}
	for _, list := range lists {
		for limit := int64(1); limit <= min(4, int64(len(list))); limit++ {
			checkCapped(t, list, limit)
		}
	}
}

// Lists with few who speak, each of whom only some members reach, leave the most choice.
func TestCappedLargeLists(t *testing.T) {
	random := rand.New(rand.NewSource(31))
	for range 60 {
		speakers := 1 + random.Intn(5)
		list := make([]impl.Voice, impl.MaxMembers)
		for place, member := range random.Perm(len(list)) {
			list[member].Speaks = place < speakers
		}
		for i := range list {
			for _, k := range random.Perm(len(list))[:random.Intn(impl.MaxTrust)] {
				if k != i && (list[k].Speaks || random.Intn(5) == 0) {
					list[i].Trust = append(list[i].Trust, int64(k))
				}
			}
		}
		for _, limit := range []int64{1, 2, 3, 4, 6, 11, impl.MaxMembers} {
			checkProof(t, list, limit)
			if speakers <= 3 {
				checkCapped(t, list, limit)
			}
		}
	}
}

func TestCappedCases(t *testing.T) {
	for _, c := range []struct {
		name, text     string
		limit          int64
		settled, proof []int64
	}{
		{"the document's example", "-1,2 -0 +", 2, []int64{2, -1, 2}, []int64{0, 1, 2}},
		{"a limit that suffices", "-1,2 -0 +", 3, []int64{2, 2, 2}, nil},
		{"a speaker takes the only place", "-1 +", 1, []int64{-1, 1}, []int64{0, 1}},
		{"only speakers", "+1 +0", 1, []int64{0, 1}, nil},
		{"nobody speaks", "-1 -0", 12, []int64{-1, -1}, []int64{0, 1}},
		{"silent without trust", "- +", 12, []int64{-1, 1}, []int64{0}},
		{"the end of a worse path", "-2,3 -2 + +", 2, []int64{3, 2, 2, 3}, nil},
		{"an end that no best path has", "-3 -3 -3 -4,5 + +", 3, []int64{4, 4, 5, 5, 4, 5}, nil},
		{"not beyond a speaker", "-1 +2 +", 1, []int64{-1, 1, 2}, []int64{0, 1}},
		{"the least list", "-2,3 -3,2 + +", 2, []int64{2, 3, 2, 3}, nil},
		{"a lost ballot beside a full place", "- -2 + -2", 2, []int64{-1, 2, 2, -1}, []int64{0, 1, 2, 3}},
		{"a free place elsewhere", "-1 + +", 1, []int64{-1, 1, 2}, []int64{0, 1}},
		{"places that are exchanged", "-3,4 -3 -4 + +", 2, []int64{3, -1, 4, 3, 4}, []int64{0, 1, 2, 3, 4}},
		{"a late member with one end", "-3,4 -4 - + +", 2, []int64{3, 4, -1, 3, 4}, []int64{2}},
		{"eleven at one end", "-11 -11 -11 -11 -11 -11 -11 -11 -11 -11 -11 +", 11, []int64{11, 11, 11, 11, 11, 11, 11, 11, 11, 11, -1, 11}, []int64{0, 1, 2, 3, 4, 5, 6, 7, 8, 9, 10, 11}},
		{"twelve at one end", "-11 -11 -11 -11 -11 -11 -11 -11 -11 -11 -11 +", 12, slices.Repeat([]int64{11}, 12), nil},
	} {
		settled, ok := impl.CappedSettlement(voices(c.text), c.limit)
		expectList(t, c.name+": CappedSettlement", settled, ok, c.settled, true)
		proof, ok := impl.CapProof(voices(c.text), c.limit)
		expectList(t, c.name+": CapProof", proof, ok, c.proof, true)
	}
}
