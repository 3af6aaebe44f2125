package tests

import (
	"cmp"
	"fmt"
	"math"
	"math/rand"
	"slices"
	"strconv"
	"strings"
	"testing"

	"loop.example/g01095/impl"
)

// fullProfile has as many options and rankings, and as great weights, as can be.
const fullProfile = "1000*abcdef 1000*fedcba 1000*bcdefa 1000*cdefab 1000*defabc 1000*efabcd 1000*fabcde 1000*badcfe 1000*acebdf 1000*fdbeca 1000*abcdef 1000*dacfbe"

// profile writes a profile as its text does, with blanks between the lines and without the bounds of the document.
func profile(text string) impl.Profile {
	var p impl.Profile
	for _, line := range strings.Fields(text) {
		number, letters, _ := strings.Cut(line, "*")
		weight, err := strconv.ParseInt(number, 10, 64)
		if err != nil {
			panic(err)
		}
		p.Weights, p.Rankings = append(p.Weights, weight), append(p.Rankings, options(letters))
	}
	return p
}

// options writes a list of options as letters.
func options(letters string) []int64 {
	var list []int64
	for _, letter := range letters {
		list = append(list, int64(letter-'a'))
	}
	return list
}

// profileText is the text of a profile, as the document describes it.
func profileText(p impl.Profile) string {
	text := ""
	for k, ranking := range p.Rankings {
		text += fmt.Sprint(p.Weights[k], "*")
		for _, option := range ranking {
			text += string(rune('a' + option))
		}
		text += "\n"
	}
	return text
}

func sameProfile(a, b impl.Profile) bool {
	return sameLists(a.Rankings, b.Rankings) && slices.Equal(a.Weights, b.Weights)
}

// expectProfile is expect for profiles.
func expectProfile(t *testing.T, what string, got impl.Profile, ok bool, want impl.Profile, wantOK bool) {
	t.Helper()
	if !sameProfile(got, want) || ok != wantOK {
		t.Errorf("%s: got %+v, %v, want %+v, %v", what, got, ok, want, wantOK)
	}
}

// allRankings returns all rankings of so many options, in lexicographic order.
func allRankings(count int) [][]int64 {
	list := slices.DeleteFunc(orders(others(count, -1)), func(order []int64) bool { return len(order) < count })
	slices.SortFunc(list, slices.Compare)
	return list
}

// allOrders returns the lists of different options for each number of options, those with the fewest first, and those with as many
// in lexicographic order.
func allOrders() [][][]int64 {
	all := make([][][]int64, impl.MaxOptions+1)
	for count := range all {
		all[count] = orders(others(count, -1))
		slices.SortFunc(all[count], func(a, b []int64) int { return cmp.Or(cmp.Compare(len(a), len(b)), slices.Compare(a, b)) })
	}
	return all
}

// smallProfiles returns all profiles with so many options and rankings, and weights of at most so much.
func smallProfiles(count, rankings int, weight int64) []impl.Profile {
	profiles := []impl.Profile{{}}
	for range rankings {
		var longer []impl.Profile
		for _, p := range profiles {
			for _, ranking := range allRankings(count) {
				for w := range weight + 1 {
					longer = append(longer, impl.Profile{Rankings: append(slices.Clone(p.Rankings), ranking), Weights: append(slices.Clone(p.Weights), w)})
				}
			}
		}
		profiles = longer
	}
	return profiles
}

// randomProfile returns a valid profile. Many have equal weights, rankings that are turned or reversed, or groups of options that
// stand together, so that options tie, defeat one another in circles, or form dominating sets.
func randomProfile(random *rand.Rand) impl.Profile {
	count, rankings := 2+random.Intn(impl.MaxOptions-1), 1+random.Intn(impl.MaxMembers)
	most := []int64{1, 2, 4, impl.MaxWeight}[random.Intn(4)]
	change := []func(k int, ranking []int64){
		func(_ int, ranking []int64) { shuffle(random, ranking) },
		func(_ int, ranking []int64) { swapOrReverse(random, ranking) },
		turn,
		func(k int, ranking []int64) {
			turn(k, ranking[:(count+1)/2])
			turn(k, ranking[(count+1)/2:])
		},
		func(_ int, ranking []int64) {
			shuffle(random, ranking[:count/2])
			shuffle(random, ranking[count/2:])
		},
	}[random.Intn(5)]
	base := randomOrder(random, count)
	var p impl.Profile
	for k := range rankings {
		ranking := slices.Clone(base)
		change(k, ranking)
		p.Rankings, p.Weights = append(p.Rankings, ranking), append(p.Weights, random.Int63n(most+1))
	}
	if random.Intn(3) == 0 {
		p.Weights = slices.Repeat([]int64{most}, rankings)
	}
	return p
}

// turn moves the first element of a list behind the others, k times.
func turn(k int, list []int64) {
	k %= len(list)
	copy(list, slices.Concat(list[k:], list[:k]))
}

func swapOrReverse(random *rand.Rand, list []int64) {
	if i := random.Intn(len(list)); random.Intn(2) == 0 {
		slices.Reverse(list)
	} else {
		list[0], list[i] = list[i], list[0]
	}
}

func shuffle(random *rand.Rand, list []int64) {
	random.Shuffle(len(list), func(i, j int) { list[i], list[j] = list[j], list[i] })
}

func randomOrder(random *rand.Rand, count int) []int64 {
	list := others(count, -1)
	shuffle(random, list)
	return list
}

// sampleProfiles are small profiles, and random ones of all sizes.
func sampleProfiles(seed int64, count int) []impl.Profile {
	random := rand.New(rand.NewSource(seed))
	profiles := slices.Concat(smallProfiles(1, 1, 2), smallProfiles(1, 2, 1), smallProfiles(2, 1, 2), smallProfiles(2, 2, 2), smallProfiles(2, 3, 1), smallProfiles(3, 1, 1), smallProfiles(3, 2, 2), smallProfiles(3, 3, 1))
	profiles = append(profiles, profile(fullProfile))
	for range count {
		profiles = append(profiles, randomProfile(random))
	}
	return profiles
}

// invalidProfiles are profiles that break one bound each.
func invalidProfiles() map[string]impl.Profile {
	list := map[string]impl.Profile{
		"no profile":             {},
		"no rankings":            {Weights: []int64{1}},
		"no weights":             {Rankings: [][]int64{{0}}},
		"fewer weights":          {Rankings: [][]int64{{0}, {0}}, Weights: []int64{1}},
		"more weights":           {Rankings: [][]int64{{0}}, Weights: []int64{1, 1}},
		"no options":             {Rankings: [][]int64{nil}, Weights: []int64{1}},
		"no options twice":       {Rankings: [][]int64{nil, {}}, Weights: []int64{1, 1}},
		"a far weight":           {Rankings: [][]int64{{0}}, Weights: []int64{math.MaxInt64}},
		"a least weight":         {Rankings: [][]int64{{0}}, Weights: []int64{math.MinInt64}},
		"weights of 0 together":  {Rankings: [][]int64{{0}, {0}}, Weights: []int64{-1, 1}},
		"a far option":           {Rankings: [][]int64{{0, math.MaxInt64}}, Weights: []int64{1}},
		"a least option":         {Rankings: [][]int64{{math.MinInt64, 0}}, Weights: []int64{1}},
		"an option beyond bits":  {Rankings: [][]int64{{0, 1<<32 + 1}}, Weights: []int64{1}},
		"a ranking of no option": {Rankings: [][]int64{{0}, nil}, Weights: []int64{1, 1}},
		"no ranking first":       {Rankings: [][]int64{nil, {0}}, Weights: []int64{1, 1}},
	}
	for _, text := range []string{
		"-1*a", "1001*a", "1*a -1*a", "1*a 1001*a", "1*b", "1*`", "1*aa", "1*ac", "1*abb", "1*aba", "1*bcd", "1*`a", "1*abc 1*ab", "1*ab 1*abc", "1*ab 1*aa", "1*ab 1*ac", "1*ab 1*ba 1*bb",
		"1*abcdefg", "1*abcdef 1*abcdefg", "1*abcdeg", strings.Repeat("1*a ", impl.MaxMembers+1),
	} {
		list[text] = profile(text)
	}
	return list
}

// notRankings are lists that are no rankings of three options.
func notRankings() [][]int64 {
	return [][]int64{nil, {0}, {0, 1}, {1, 2}, {0, 1, 2, 3}, {0, 1, 2, 2}, {0, 0, 1}, {0, 1, 1}, {2, 1, 2}, {0, 1, 3}, {1, 2, 3}, {-1, 0, 1}, {0, 1, math.MaxInt64}, {math.MinInt64, 0, 1}, {0, 1, 1<<32 + 2}}
}

// countsIn returns the matrix of the document: in row i and column j, the weights of the rankings in which i stands before j.
func countsIn(p impl.Profile) [][]int64 {
	counts := make([][]int64, len(p.Rankings[0]))
	for i := range counts {
		counts[i] = make([]int64, len(counts))
		for j := range counts {
			for k, ranking := range p.Rankings {
				if slices.Index(ranking, int64(i)) < slices.Index(ranking, int64(j)) {
					counts[i][j] += p.Weights[k]
				}
			}
		}
	}
	return counts
}

func defeatsIn(counts [][]int64, i, j int64) bool { return counts[i][j] > counts[j][i] }

// dominatingIn returns all dominating sets, those with the fewest options first.
func dominatingIn(counts [][]int64) [][]int64 {
	count := int64(len(counts))
	isDominating := func(set []int64) bool {
		for i := range count {
			for j := range count {
				if slices.Contains(set, i) && !slices.Contains(set, j) && !defeatsIn(counts, i, j) {
					return false
				}
			}
		}
		return len(set) > 0
	}
	sets := slices.DeleteFunc(allSets(count), func(set []int64) bool { return !isDominating(set) })
	slices.SortStableFunc(sets, func(a, b []int64) int { return cmp.Compare(len(a), len(b)) })
	return sets
}

// strengthIn returns the strength of a list of options, and 0 if it is no path.
func strengthIn(counts [][]int64, path []int64) int64 {
	if len(path) < 2 {
		return 0
	}
	least := int64(math.MaxInt64)
	for i, next := range path[1:] {
		if !defeatsIn(counts, path[i], next) {
			return 0
		}
		least = min(least, counts[path[i]][next])
	}
	return least
}

// strongestIn returns for each pair of options all paths with the greatest strength. They are in the order of the lists that are
// given, which are all lists of different options.
func strongestIn(counts [][]int64, lists [][]int64) map[[2]int64][][]int64 {
	best := map[[2]int64][][]int64{}
	for _, list := range lists {
		strength := strengthIn(counts, list)
		if strength == 0 {
			continue
		}
		ends := [2]int64{list[0], list[len(list)-1]}
		if paths := best[ends]; len(paths) > 0 {
			before := strengthIn(counts, paths[0])
			if strength < before {
				continue
			}
			if strength > before {
				best[ends] = nil
			}
		}
		best[ends] = append(best[ends], list)
	}
	return best
}

// duelsIn returns all duels in the order that the document describes.
func duelsIn(counts [][]int64) []impl.Duel {
	var duels []impl.Duel
	for i := range int64(len(counts)) {
		for j := range int64(len(counts)) {
			if defeatsIn(counts, i, j) {
				duels = append(duels, impl.Duel{First: i, Second: j, For: counts[i][j], Against: counts[j][i]})
			}
		}
	}
	slices.SortFunc(duels, func(a, b impl.Duel) int {
		return cmp.Or(cmp.Compare(b.For, a.For), cmp.Compare(a.Against, b.Against), cmp.Compare(a.First, b.First), cmp.Compare(a.Second, b.Second))
	})
	return duels
}

// lockIn decides duels one after another. It returns which ones are locked, and for each other one the first list because of which
// it is not, of lists that are all lists of different options.
func lockIn(duels []impl.Duel, lists [][]int64) ([]bool, [][]int64) {
	locked, circles := make([]bool, len(duels)), make([][]int64, len(duels))
	for k, duel := range duels {
		isLockedBefore := func(i, j int64) bool {
			for earlier, other := range duels[:k] {
				if other.First == i && other.Second == j {
					return locked[earlier]
				}
			}
			return false
		}
		at := slices.IndexFunc(lists, func(list []int64) bool {
			if len(list) < 2 || list[0] != duel.Second || list[len(list)-1] != duel.First {
				return false
			}
			for i, next := range list[1:] {
				if !isLockedBefore(list[i], next) {
					return false
				}
			}
			return true
		})
		locked[k] = at < 0
		if at >= 0 {
			circles[k] = lists[at]
		}
	}
	return locked, circles
}

// rankedIn returns all rankings in which the First of each locked duel stands before its Second, in lexicographic order.
func rankedIn(count int, duels []impl.Duel, locked []bool) [][]int64 {
	return slices.DeleteFunc(allRankings(count), func(ranking []int64) bool {
		for k, duel := range duels {
			if locked[k] && slices.Index(ranking, duel.First) > slices.Index(ranking, duel.Second) {
				return true
			}
		}
		return false
	})
}

// disagreementIn counts the pairs of options that stand in a ranking of the profile the other way round, with its weight.
func disagreementIn(p impl.Profile, ranking []int64) int64 {
	sum := int64(0)
	for k, other := range p.Rankings {
		for i := range other {
			for j := range i {
				if slices.Index(ranking, other[i]) < slices.Index(ranking, other[j]) {
					sum += p.Weights[k]
				}
			}
		}
	}
	return sum
}

// agreeingIn returns all rankings with the least disagreement, in lexicographic order.
func agreeingIn(p impl.Profile) [][]int64 {
	var best [][]int64
	least := int64(math.MaxInt64)
	for _, ranking := range allRankings(len(p.Rankings[0])) {
		sum := disagreementIn(p, ranking)
		if sum < least {
			best, least = nil, sum
		}
		if sum == least {
			best = append(best, ranking)
		}
	}
	return best
}
