package tests

import (
	"fmt"
	"math"
	"regexp"
	"slices"
	"strings"
	"testing"

	"loop.example/g01095/impl"
)

func TestValidProfile(t *testing.T) {
	for _, text := range []string{"0*a", "1000*a", "0*a 0*a", "1*ba", "1*abcdef", "1*fedcba 1*fedcba", "0*ab 0*ba 0*ab", strings.Repeat("1000*ba ", impl.MaxMembers), fullProfile} {
		if !impl.ValidProfile(profile(text)) {
			t.Errorf("ValidProfile of %q is false", text)
		}
	}
	for _, p := range sampleProfiles(90, 1000) {
		if !impl.ValidProfile(p) {
			t.Errorf("ValidProfile of %q is false", profileText(p))
		}
	}
	for name, p := range invalidProfiles() {
		if impl.ValidProfile(p) {
			t.Errorf("ValidProfile is true for %s: %+v", name, p)
		}
	}
}

func TestInvalidProfilesAreRefused(t *testing.T) {
	for name, p := range invalidProfiles() {
		name = " of " + name
		text, ok := impl.ProfileText(p)
		expect(t, "ProfileText"+name, text, ok, "", false)
		for what, matrix := range map[string]func(p impl.Profile) ([][]int64, bool){"CountPairs": impl.CountPairs, "PathStrengths": impl.PathStrengths} {
			got, ok := matrix(p)
			expectLists(t, what+name, got, ok, nil, false)
		}
		for what, list := range map[string]func(p impl.Profile) ([]int64, bool){
			"BordaScores": impl.BordaScores, "LeastDominating": impl.LeastDominating, "SchulzeWinners": impl.SchulzeWinners, "RankedOrder": impl.RankedOrder,
			"StrongestPath": func(p impl.Profile) ([]int64, bool) { return impl.StrongestPath(p, 0, 1) },
			"CircleOf":      func(p impl.Profile) ([]int64, bool) { return impl.CircleOf(p, 0) },
		} {
			got, ok := list(p)
			expectList(t, what+name, got, ok, nil, false)
		}
		for what, change := range map[string]func(p impl.Profile) (impl.Profile, bool){
			"ReverseProfile": impl.ReverseProfile,
			"RaiseOption":    func(p impl.Profile) (impl.Profile, bool) { return impl.RaiseOption(p, 0, 1) },
			"DropOption":     func(p impl.Profile) (impl.Profile, bool) { return impl.DropOption(p, 0) },
		} {
			got, ok := change(p)
			expectProfile(t, what+name, got, ok, impl.Profile{}, false)
		}
		option, ok := impl.DefeatsAll(p)
		expect(t, "DefeatsAll"+name, option, ok, 0, false)
		duels, ok := impl.DuelsOf(p)
		expect(t, "DuelsOf"+name, len(duels), ok, 0, false)
		locked, ok := impl.LockedDuels(p)
		expect(t, "LockedDuels"+name, len(locked), ok, 0, false)
		for _, ranking := range [][]int64{nil, {0}, {0, 1}, {0, 1, 2, 3, 4, 5, 6}} {
			sum, ok := impl.DisagreementOf(p, ranking)
			expect(t, "DisagreementOf"+name, sum, ok, 0, false)
		}
		ranking, least, ok := impl.KemenyRanking(p)
		expectList(t, "KemenyRanking"+name, ranking, ok, nil, false)
		expect(t, "disagreement of KemenyRanking"+name, least, ok, 0, false)
	}
}

func TestProfileText(t *testing.T) {
	for _, p := range sampleProfiles(91, 2000) {
		text, ok := impl.ProfileText(p)
		expect(t, fmt.Sprintf("ProfileText of %+v", p), text, ok, profileText(p), true)
		back, ok := impl.ReadProfile(text)
		expectProfile(t, fmt.Sprintf("ReadProfile of %q", text), back, ok, p, true)
	}
	for _, p := range invalidProfiles() {
		if len(p.Weights) == len(p.Rankings) {
			checkReadProfile(t, profileText(p))
		}
	}
}

func TestReadProfileInvalid(t *testing.T) {
	for _, s := range []string{
		"", "\n", " ", "a", "a\n", "*", "*\n", "1", "1\n", "1*", "1*\n", "*a\n", "1*a", "1*a\n\n", "\n1*a\n", "1*a\n1*a", "1*a\n\n1*a\n", "1*a\r\n", "1*a \n", " 1*a\n", "1 *a\n", "1* a\n", "1*a\n ",
		"1**a\n", "1*a*\n", "1*a*b\n", "1:a\n", "1a\n", "1*A\n", "1*0\n", "1*a,b\n", "1*a b\n", "1*ab\n1*ab\n1*ab", "1*ab1*ab\n", "1*ab;1*ab\n",
		"01*a\n", "00*a\n", "+1*a\n", "-0*a\n", "-1*a\n", "1.0*a\n", "1001*a\n", "1*a\n1001*a\n", "10000000000*a\n", "18446744073709551617*a\n", "１*a\n", "0x1*a\n", "1e1*a\n", "1_0*a\n",
		"1*b\n", "1*aa\n", "1*ac\n", "1*aab\n", "1*bcd\n", "1*abb\n", "1*ab\n1*a\n", "1*a\n1*ab\n", "1*ab\n1*ac\n", "1*ab\n1*aa\n", "1*abcdefg\n", "1*abcdeg\n", "1*gfedcba\n", "1*`\n", "1*a\x00\n", "1*\xe1\n", "1*а\n",
		strings.Repeat("1*a\n", impl.MaxMembers+1), strings.Repeat("\n", 12),
	} {
		p, ok := impl.ReadProfile(s)
		expectProfile(t, fmt.Sprintf("ReadProfile of %q", s), p, ok, impl.Profile{}, false)
	}
}

var profileLine = regexp.MustCompile(`^(0|[1-9][0-9]{0,2}|1000)\*([a-f]{1,6})$`)

// isTextOfAProfile looks at the lines of a text only.
func isTextOfAProfile(text string) bool {
	lines := strings.Split(text, "\n")
	last := len(lines) - 1
	if last < 1 || last > impl.MaxMembers || lines[last] != "" {
		return false
	}
	length := 0
	for i, line := range lines[:last] {
		parts := profileLine.FindStringSubmatch(line)
		if parts == nil || i > 0 && len(parts[2]) != length {
			return false
		}
		length = len(parts[2])
		letters := []byte(parts[2])
		slices.Sort(letters)
		if string(letters) != "abcdef"[:length] {
			return false
		}
	}
	return true
}

func checkReadProfile(t *testing.T, text string) {
	t.Helper()
	checkRead(t, text, isTextOfAProfile(text), profile, impl.ReadProfile, sameProfile)
}

func TestReadProfileOfAllShortTexts(t *testing.T) {
	for _, text := range words("ab01*\n", 7) {
		checkReadProfile(t, text)
	}
	for n := range int64(1200) {
		checkReadProfile(t, fmt.Sprintf("%d*a\n", n))
		checkReadProfile(t, fmt.Sprintf("7*ba\n%d*ab\n", n-100))
	}
}

// Texts are nearly those of profiles if one byte is left out, put in or another one.
func TestReadProfileOfNearTexts(t *testing.T) {
	for _, p := range slices.Concat(smallProfiles(2, 2, 1), smallProfiles(3, 1, 1), []impl.Profile{profile("4*abc 3*bca 2*cab"), profile("1000*fedcba 10*abcdef"), profile(strings.Repeat("1*ba ", impl.MaxMembers))}) {
		for text := range nearTexts(profileText(p), "`abcdefgA019*\n \r\x00-+") {
			checkReadProfile(t, text)
		}
	}
}

func TestCountPairs(t *testing.T) {
	for _, p := range sampleProfiles(92, 2000) {
		counts := countsIn(p)
		got, ok := impl.CountPairs(p)
		expectLists(t, "CountPairs of "+profileText(p), got, ok, counts, true)
		scores := make([]int64, len(counts))
		for k, ranking := range p.Rankings {
			for place, option := range ranking {
				scores[option] += p.Weights[k] * int64(len(ranking)-1-place)
			}
		}
		list, ok := impl.BordaScores(p)
		expectList(t, "BordaScores of "+profileText(p), list, ok, scores, true)
	}
}

func TestCountCases(t *testing.T) {
	for _, c := range []struct{ name, text, counts, scores string }{
		{"the document's example", "4*abc 3*bca 2*cab", "[[0 6 4] [3 0 7] [5 2 0]]", "[10 10 7]"},
		{"one option", "7*a", "[[0]]", "[0]"},
		{"one option, several rankings", "7*a 1000*a", "[[0]]", "[0]"},
		{"one ranking", "2*bca", "[[0 0 0] [2 0 2] [2 0 0]]", "[0 4 2]"},
		{"weights that are all 0", "0*abc 0*bca", "[[0 0 0] [0 0 0] [0 0 0]]", "[0 0 0]"},
		{"one weight that is 0", "0*ba 1*ab", "[[0 1] [0 0]]", "[1 0]"},
		{"rankings that are equal", "1*ba 2*ba", "[[0 0] [3 0]]", "[0 3]"},
		{"options that tie", "5*ab 5*ba", "[[0 5] [5 0]]", "[5 5]"},
		{"the greatest numbers", strings.Repeat("1000*abcdef ", 12), "[[0 12000 12000 12000 12000 12000] [0 0 12000 12000 12000 12000] [0 0 0 12000 12000 12000] [0 0 0 0 12000 12000] [0 0 0 0 0 12000] [0 0 0 0 0 0]]", "[60000 48000 36000 24000 12000 0]"},
	} {
		counts, ok := impl.CountPairs(profile(c.text))
		expect(t, c.name+": CountPairs", fmt.Sprint(counts), ok, c.counts, true)
		scores, ok := impl.BordaScores(profile(c.text))
		expect(t, c.name+": BordaScores", fmt.Sprint(scores), ok, c.scores, true)
	}
}

func TestRaiseOption(t *testing.T) {
	for _, p := range sampleProfiles(93, 600) {
		before := countsIn(p)
		for k, ranking := range p.Rankings {
			for place, option := range ranking {
				what := fmt.Sprintf("RaiseOption of %q, %d, %d", profileText(p), k, option)
				got, ok := impl.RaiseOption(p, int64(k), option)
				if place == 0 {
					expectProfile(t, what, got, ok, impl.Profile{}, false)
					continue
				}
				want := impl.Profile{Rankings: slices.Clone(p.Rankings), Weights: p.Weights}
				want.Rankings[k] = slices.Concat(ranking[:place-1], []int64{option, ranking[place-1]}, ranking[place+1:])
				expectProfile(t, what, got, ok, want, true)
				// Only the two options have changed their places.
				after, _ := impl.CountPairs(got)
				after[option][ranking[place-1]] -= p.Weights[k]
				after[ranking[place-1]][option] += p.Weights[k]
				if !sameLists(after, before) {
					t.Errorf("%s changes the counts by %v", what, after)
				}
			}
		}
	}
}

func TestRaiseOptionCases(t *testing.T) {
	const example = "4*abc 3*bca 2*cab"
	for _, c := range []struct {
		name, text string
		k, option  int64
		raised     string
	}{
		{"the option stands first", example, 0, 0, ""},
		{"the option stands first in the last ranking", example, 2, 2, ""},
		{"the option stands second", example, 0, 1, "4*bac 3*bca 2*cab"},
		{"the option stands second in the last ranking", example, 2, 0, "4*abc 3*bca 2*acb"},
		{"the option stands last", example, 1, 0, "4*abc 3*bac 2*cab"},
		{"the only option", "1*a", 0, 0, ""},
		{"rankings that are equal", "1*ab 1*ab", 1, 1, "1*ab 1*ba"},
		{"a weight of 0", "0*ab", 0, 1, "0*ba"},
		{"the ranking behind the last one", example, 3, 1, ""},
		{"a negative ranking", example, -1, 1, ""},
		{"a far ranking", example, math.MaxInt64, 1, ""},
		{"a far negative ranking", example, math.MinInt64, 1, ""},
		{"a ranking beyond bits", example, 1 << 32, 1, ""},
		{"the option behind the last one", example, 0, 3, ""},
		{"a negative option", example, 0, -1, ""},
		{"a far option", example, 0, math.MaxInt64, ""},
		{"a far negative option", example, 0, math.MinInt64, ""},
		{"an option beyond bits", example, 0, 1<<32 + 1, ""},
	} {
		got, ok := impl.RaiseOption(profile(c.text), c.k, c.option)
		expectProfile(t, c.name, got, ok, profile(c.raised), c.raised != "")
	}
}

func TestDropOption(t *testing.T) {
	for _, p := range sampleProfiles(94, 600) {
		count := len(p.Rankings[0])
		before := countsIn(p)
		for option := range count {
			what := fmt.Sprintf("DropOption of %q, %d", profileText(p), option)
			got, ok := impl.DropOption(p, int64(option))
			if count == 1 {
				expectProfile(t, what, got, ok, impl.Profile{}, false)
				continue
			}
			if !ok || !impl.ValidProfile(got) || !slices.Equal(got.Weights, p.Weights) {
				t.Errorf("%s: got %+v, %v", what, got, ok)
				continue
			}
			// The others stand as before.
			want := slices.Delete(slices.Clone(before), option, option+1)
			for i := range want {
				want[i] = slices.Delete(slices.Clone(want[i]), option, option+1)
			}
			if counts := countsIn(got); !sameLists(counts, want) {
				t.Errorf("%s: counts %v, want %v", what, counts, want)
			}
			for k, ranking := range p.Rankings {
				var kept []int64
				for _, other := range ranking {
					if other < int64(option) {
						kept = append(kept, other)
					}
					if other > int64(option) {
						kept = append(kept, other-1)
					}
				}
				expectList(t, what, got.Rankings[k], ok, kept, true)
			}
		}
	}
}

func TestDropOptionCases(t *testing.T) {
	const example = "4*abc 3*bca 2*cab"
	for _, c := range []struct {
		name, text string
		option     int64
		left       string
	}{
		{"the first option", example, 0, "4*ab 3*ab 2*ba"},
		{"the option in the middle", example, 1, "4*ab 3*ba 2*ba"},
		{"the last option", example, 2, "4*ab 3*ba 2*ab"},
		{"one of two options", "1*ba", 0, "1*a"},
		{"the other one of two options", "1*ba", 1, "1*a"},
		{"the only option", "1*a", 0, ""},
		{"the only option of several rankings", "1*a 0*a", 0, ""},
		{"the first one of all options", "1*fedcba 1*abcdef", 0, "1*edcba 1*abcde"},
		{"the last one of all options", "1*fedcba 1*abcdef", 5, "1*edcba 1*abcde"},
		{"the option behind the last one", example, 3, ""},
		{"another option than the only one", "1*a", 1, ""},
		{"a negative option", example, -1, ""},
		{"a far option", example, math.MaxInt64, ""},
		{"a far negative option", example, math.MinInt64, ""},
		{"an option beyond bits", example, 1 << 32, ""},
	} {
		got, ok := impl.DropOption(profile(c.text), c.option)
		expectProfile(t, c.name, got, ok, profile(c.left), c.left != "")
	}
}

func TestReverseProfile(t *testing.T) {
	for _, p := range sampleProfiles(95, 1000) {
		what := fmt.Sprintf("ReverseProfile of %q", profileText(p))
		want := impl.Profile{Weights: p.Weights}
		for _, ranking := range p.Rankings {
			var back []int64
			for _, option := range ranking {
				back = slices.Concat([]int64{option}, back)
			}
			want.Rankings = append(want.Rankings, back)
		}
		got, ok := impl.ReverseProfile(p)
		expectProfile(t, what, got, ok, want, true)
		again, ok := impl.ReverseProfile(got)
		expectProfile(t, what+", and back", again, ok, p, true)
	}
}
