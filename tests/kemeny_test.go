package tests

import (
	"fmt"
	"slices"
	"strings"
	"testing"

	"loop.example/g01095/impl"
)

func TestKemenyRanking(t *testing.T) {
	several := 0
	for _, p := range sampleProfiles(120, 1500) {
		what := "KemenyRanking of " + profileText(p)
		best := agreeingIn(p)
		ranking, least, ok := impl.KemenyRanking(p)
		expectList(t, what, ranking, ok, best[0], true)
		expect(t, what+": disagreement", least, ok, disagreementIn(p, best[0]), true)
		if len(best) > 1 && slices.Max(p.Weights) > 0 {
			several++
		}
	}
	if several < 300 {
		t.Errorf("only %d profiles have several rankings with the least disagreement", several)
	}
}

func TestDisagreement(t *testing.T) {
	for _, p := range sampleProfiles(121, 200) {
		for _, ranking := range orders(others(len(p.Rankings[0]), -1)) {
			what := fmt.Sprint("DisagreementOf ", profileText(p), ranking)
			got, ok := impl.DisagreementOf(p, ranking)
			if len(ranking) < len(p.Rankings[0]) {
				expect(t, what, got, ok, 0, false)
				continue
			}
			expect(t, what, got, ok, disagreementIn(p, ranking), true)
		}
	}
	for _, ranking := range notRankings() {
		for _, text := range []string{"4*abc 3*bca 2*cab", "0*abc"} {
			got, ok := impl.DisagreementOf(profile(text), ranking)
			expect(t, fmt.Sprint("DisagreementOf ", text, ranking), got, ok, 0, false)
		}
	}
}

func TestDisagreementCases(t *testing.T) {
	const example, circle = "4*abc 3*bca 2*cab", "1*abc 1*bca 1*cab"
	full := strings.Repeat("1000*abcdef ", impl.MaxMembers)
	for _, c := range []struct {
		name, text, ranking string
		sum                 int64
		best                string
		least               int64
	}{
		{"the document's example", example, "abc", 10, "abc", 10},
		{"the ranking with the greatest disagreement", example, "cba", 17, "abc", 10},
		{"another ranking", example, "cab", 14, "abc", 10},
		{"one option", "7*a", "a", 0, "a", 0},
		{"one ranking", "3*cab", "cab", 0, "cab", 0},
		{"one pair", "3*cab", "acb", 3, "cab", 0},
		{"weights that are all 0", "0*cba 0*bca", "cab", 0, "abc", 0},
		{"rankings with equal disagreement", "1*ba 1*ab", "ba", 1, "ab", 1},
		{"a circle, of which each ranking has the same disagreement", circle, "bca", 4, "abc", 4},
		{"the other circle", circle, "acb", 5, "abc", 4},
		{"equal disagreement of other rankings", "1*cba 1*cab", "cba", 1, "cab", 1},
		{"the greatest disagreement", full, "fedcba", 180000, "abcdef", 0},
		{"the least ranking is not the best", "1*fedcba", "abcdef", 15, "fedcba", 0},
	} {
		p := profile(c.text)
		sum, ok := impl.DisagreementOf(p, options(c.ranking))
		expect(t, c.name+": DisagreementOf", sum, ok, c.sum, true)
		best, least, ok := impl.KemenyRanking(p)
		expectList(t, c.name+": KemenyRanking", best, ok, options(c.best), true)
		expect(t, c.name+": disagreement of KemenyRanking", least, ok, c.least, true)
	}
}
