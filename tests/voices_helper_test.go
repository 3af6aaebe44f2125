package tests

import (
	"cmp"
	"fmt"
	"math/rand"
	"slices"
	"strconv"
	"strings"
	"testing"

	"loop.example/g01095/impl"
)

// voices writes a list as its text does, without the bounds of the document.
func voices(text string) []impl.Voice {
	var list []impl.Voice
	for _, word := range strings.Fields(text) {
		voice := impl.Voice{Speaks: word[0] == '+'}
		for _, digits := range strings.FieldsFunc(word[1:], func(r rune) bool { return r == ',' }) {
			n, err := strconv.ParseInt(digits, 10, 64)
			if err != nil {
				panic(err)
			}
			voice.Trust = append(voice.Trust, n)
		}
		list = append(list, voice)
	}
	return list
}

// textOf is the text of a list, as the document describes it.
func textOf(list []impl.Voice) string {
	var words []string
	for _, voice := range list {
		word := "-"
		if voice.Speaks {
			word = "+"
		}
		for i, n := range voice.Trust {
			if i > 0 {
				word += ","
			}
			word += fmt.Sprint(n)
		}
		words = append(words, word)
	}
	return strings.Join(words, " ")
}

// randomVoices returns a valid list in which one of so many members speaks.
func randomVoices(random *rand.Rand, members, speakers int) []impl.Voice {
	list := make([]impl.Voice, members)
	for i := range list {
		list[i].Speaks = random.Intn(speakers) == 0
		for _, k := range random.Perm(members)[:random.Intn(min(members, impl.MaxTrust)+1)] {
			if k != i {
				list[i].Trust = append(list[i].Trust, int64(k))
			}
		}
	}
	return list
}

// smallVoices returns all valid lists of so many members, at most 3.
func smallVoices(members int) [][]impl.Voice {
	lists := [][]impl.Voice{nil}
	for i := range members {
		var longer [][]impl.Voice
		for _, list := range lists {
			for _, trust := range orders(others(members, i)) {
				for _, speaks := range []bool{false, true} {
					longer = append(longer, append(slices.Clone(list), impl.Voice{Speaks: speaks, Trust: trust}))
				}
			}
		}
		lists = longer
	}
	return lists
}

func others(members, but int) []int64 {
	var list []int64
	for i := range members {
		if i != but {
			list = append(list, int64(i))
		}
	}
	return list
}

// orders returns all lists of different elements of a list.
func orders(list []int64) [][]int64 {
	all := [][]int64{nil}
	for i, first := range list {
		for _, rest := range orders(slices.Concat(list[:i], list[i+1:])) {
			all = append(all, slices.Concat([]int64{first}, rest))
		}
	}
	return all
}

// walk is a path with its ranks.
type walk struct {
	path, ranks []int64
}

// walksFrom finds all paths from a member by trying all of them, in the order of their ranks.
func walksFrom(list []impl.Voice, member int64) []walk {
	var walks []walk
	var extend func(path, ranks []int64)
	extend = func(path, ranks []int64) {
		voice := list[path[len(path)-1]]
		if voice.Speaks {
			walks = append(walks, walk{slices.Clone(path), slices.Clone(ranks)})
			return
		}
		for i, next := range voice.Trust {
			if !slices.Contains(path, next) {
				extend(slices.Concat(path, []int64{next}), slices.Concat(ranks, []int64{int64(i + 1)}))
			}
		}
	}
	extend([]int64{member}, nil)
	return walks
}

// compareWalks compares two paths by a rule, the better one first.
func compareWalks(rule int64, a, b walk) int {
	total := func(list []int64) (sum int64) {
		for _, n := range list {
			sum += n
		}
		return sum
	}
	first := 0
	switch rule {
	case impl.RuleBreadth:
		first = cmp.Compare(len(a.path), len(b.path))
	case impl.RuleSum:
		first = cmp.Compare(total(a.ranks), total(b.ranks))
	}
	if first != 0 {
		return first
	}
	return slices.Compare(a.ranks, b.ranks)
}

// bestWalk returns the best path of all, and nil if there is none.
func bestWalk(list []impl.Voice, rule, member int64) []int64 {
	walks := walksFrom(list, member)
	if len(walks) == 0 {
		return nil
	}
	return slices.MinFunc(walks, func(a, b walk) int { return compareWalks(rule, a, b) }).path
}

// endsOfWalks returns the set of the last members of all paths from a member.
func endsOfWalks(list []impl.Voice, member int64) []int64 {
	var ends []int64
	for _, w := range walksFrom(list, member) {
		ends = append(ends, w.path[len(w.path)-1])
	}
	slices.Sort(ends)
	return slices.Compact(ends)
}

func rules() []int64 { return []int64{impl.RuleBreadth, impl.RuleSum, impl.RuleDepth} }

// expectLists is expect for lists of lists.
func expectLists(t *testing.T, what string, got [][]int64, ok bool, want [][]int64, wantOK bool) {
	t.Helper()
	if !slices.EqualFunc(got, want, slices.Equal) || ok != wantOK {
		t.Errorf("%s: got %v, %v, want %v, %v", what, got, ok, want, wantOK)
	}
}

func sameVoices(a, b []impl.Voice) bool {
	return slices.EqualFunc(a, b, func(v, w impl.Voice) bool { return v.Speaks == w.Speaks && slices.Equal(v.Trust, w.Trust) })
}

// invalidVoices are lists that break one bound each.
func invalidVoices() map[string][]impl.Voice {
	return map[string][]impl.Voice{
		"no voices":                     nil,
		"13 voices":                     make([]impl.Voice, impl.MaxMembers+1),
		"trust in itself":               voices("-0"),
		"trust in itself of a speaker":  voices("+ +0,1"),
		"trust in no member":            voices("-1 -2"),
		"trust in a negative number":    {{Trust: []int64{-1}}, {}},
		"a speaker's trust in nobody":   voices("- +2"),
		"trust in a member twice":       voices("-1,1 +"),
		"trust in a member later twice": voices("-1,2,1 + +"),
		"trust in 5 members":            voices("-1,2,3,4,5 + + + + +"),
		"a speaker's trust in 5":        voices("+1,2,3,4,5 - - - - -"),
		"the last voice":                voices("+ + + -3"),
		"a far number":                  {{Speaks: true}, {Trust: []int64{1 << 62}}},
		"the least number":              {{Speaks: true}, {Trust: []int64{-1 << 63}}},
	}
}
