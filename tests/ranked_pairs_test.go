package tests

import (
	"fmt"
	"math"
	"slices"
	"strings"
	"testing"

	"loop.example/g01095/impl"
)

func TestRankedPairs(t *testing.T) {
	lists := allOrders()
	var equal, open int
	lengths := make([]int, impl.MaxOptions+1)
	for _, p := range sampleProfiles(110, 5000) {
		what := " of " + profileText(p)
		counts := countsIn(p)
		duels := duelsIn(counts)
		got, ok := impl.DuelsOf(p)
		if !ok || !slices.Equal(got, duels) {
			t.Errorf("DuelsOf%s: got %v, %v, want %v", what, got, ok, duels)
		}
		locked, circles := lockIn(duels, lists[len(counts)])
		flags, ok := impl.LockedDuels(p)
		if !ok || !slices.Equal(flags, locked) {
			t.Errorf("LockedDuels%s: got %v, %v, want %v", what, flags, ok, locked)
		}
		for k, circle := range circles {
			got, ok := impl.CircleOf(p, int64(k))
			expectList(t, fmt.Sprint("CircleOf", what, k), got, ok, circle, !locked[k])
			lengths[len(circle)]++
			if k > 0 && duels[k].For == duels[k-1].For {
				equal++
			}
		}
		orders := rankedIn(len(counts), duels, locked)
		order, ok := impl.RankedOrder(p)
		expectList(t, "RankedOrder"+what, order, ok, orders[0], true)
		if len(duels) > 0 && len(orders) > 1 {
			open++
		}
	}
	if equal < 1000 || open < 500 || min(lengths[3], lengths[4], lengths[5], lengths[6]) < 20 {
		t.Errorf("only %d duels are equal to those before, %d orders are left open in part, and the circles have the lengths %v", equal, open, lengths)
	}
}

// duelsText writes duels with letters, and with a ! behind those that are locked.
func duelsText(duels []impl.Duel, locked []bool) string {
	var words []string
	for k, d := range duels {
		word := fmt.Sprintf("%c%c%d-%d", 'a'+rune(d.First), 'a'+rune(d.Second), d.For, d.Against)
		if locked[k] {
			word += "!"
		}
		words = append(words, word)
	}
	return strings.Join(words, " ")
}

func TestRankedPairCases(t *testing.T) {
	for _, c := range []struct {
		name, text   string
		duels, order string
	}{
		{"the document's example", "4*abc 3*bca 2*cab", "bc7-2! ab6-3! ca5-4", "abc"},
		{"one option", "1*a", "", "a"},
		{"one ranking", "3*cab", "ab3-0! ca3-0! cb3-0!", "cab"},
		{"weights that are all 0", "0*cba", "", "abc"},
		{"no option defeats another", "1*cab 1*bac", "", "abc"},
		{"the greatest weights", strings.Repeat("1000*ba ", 12), "ba12000-0!", "ba"},
		{"all options", "1*fedcba", "ba1-0! ca1-0! cb1-0! da1-0! db1-0! dc1-0! ea1-0! eb1-0! ec1-0! ed1-0! fa1-0! fb1-0! fc1-0! fd1-0! fe1-0!", "fedcba"},
		{"equal duels in a circle", "1*abc 1*bca 1*cab", "ab2-1! bc2-1! ca2-1", "abc"},
		{"equal duels in the other circle", "1*acb 1*cba 1*bac", "ac2-1! ba2-1! cb2-1", "bac"},
		{"a circle of four", "1*abcd 1*bcda 1*cdab 1*dabc", "ab3-1! bc3-1! cd3-1! da3-1", "abcd"},
		{"circles of three and four", "1*bcad 1*cdba 2*dabc 1*cabd", "ab3-2! bc3-2! ca3-2 cd3-2! da3-2 db3-2", "abcd"},
		{"a duel that is not locked makes up no circle", "1*cbad 1*badc 1*dacb", "ac2-1! ad2-1! ba2-1! bd2-1! cb2-1 dc2-1!", "badc"},
		{"several circles because of one duel", "1*bcda 2*acbd 2*dacb", "ab4-1! ac4-1! cb4-1! bd3-2! cd3-2! da3-2", "acbd"},
		{"the last two options are left open", "1*abc 1*acb", "ab2-0! ac2-0!", "abc"},
		{"the last two options are left open behind another one", "1*bca 1*bac", "ba2-0! bc2-0!", "bac"},
		{"the first two options are left open", "1*cba 1*bca", "ba2-0! ca2-0!", "bca"},
		{"the place of the last option is left open", "1*cba 1*bac", "ba2-0!", "bac"},
		{"the place of the first option is left open", "1*acb 1*cba", "cb2-0!", "acb"},
		{"the place of the option in the middle is left open", "1*bca 1*cab", "ca2-0!", "bca"},
	} {
		p := profile(c.text)
		duels, _ := impl.DuelsOf(p)
		locked, ok := impl.LockedDuels(p)
		expect(t, c.name+": LockedDuels", duelsText(duels, locked), ok, c.duels, true)
		order, ok := impl.RankedOrder(p)
		expectList(t, c.name+": RankedOrder", order, ok, options(c.order), true)
	}
}

func TestCircleCases(t *testing.T) {
	const example, several = "4*abc 3*bca 2*cab", "1*bcad 1*cdba 2*dabc 1*cabd"
	for _, c := range []struct {
		name, text string
		k          int64
		circle     string
	}{
		{"the document's example", example, 2, "abc"},
		{"a duel that is locked", example, 0, ""},
		{"the last duel that is locked", example, 1, ""},
		{"a circle of three", several, 2, "abc"},
		{"a duel that is locked behind one that is not", several, 3, ""},
		{"a circle of four", several, 4, "abcd"},
		{"another circle of three", several, 5, "bcd"},
		{"a circle of all six", "1*abcdef 1*bcdefa 1*cdefab 1*defabc 1*efabcd 1*fabcde", 5, "abcdef"},
		{"a shorter circle because of later duels", "1*abcdef 1*bcdefa 1*cdefab 1*defabc 1*efabcd 1*fabcde", 10, "ace"},
		{"the first one of several circles", "1*bcda 2*acbd 2*dacb", 5, "abd"},
		{"the only duel", "1*ba", 0, ""},
		{"the duel behind the last one", example, 3, ""},
		{"the duel behind the only one", "1*ba", 1, ""},
		{"there are no duels", "1*ab 1*ba", 0, ""},
		{"one option", "1*a", 0, ""},
		{"a negative index", example, -1, ""},
		{"a far index", example, math.MaxInt64, ""},
		{"a far negative index", example, math.MinInt64, ""},
		{"an index beyond bits", example, 1<<32 + 2, ""},
	} {
		circle, ok := impl.CircleOf(profile(c.text), c.k)
		expectList(t, c.name, circle, ok, options(c.circle), c.circle != "")
	}
}
