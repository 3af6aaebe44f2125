package tests

import (
	"math"
	"math/rand"
	"slices"
	"strings"
	"testing"

	"loop.example/g01095/impl"
)

// poolCalls are the functions of a pool and a list, which is a panel, tickets or prices, n being a person or a ticket.
func poolCalls(p impl.Pool, list []int64, n int64) []call {
	return []call{
		{"ValidPool", func() []any { return single(impl.ValidPool(p)) }},
		{"PoolText", func() []any { return pair(impl.PoolText(p)) }},
		{"IsPanel", func() []any { return single(impl.IsPanel(p, list)) }},
		{"PanelsOf", func() []any { return pair(impl.PanelsOf(p)) }},
		{"ShortfallOf", func() []any { return pair(impl.ShortfallOf(p, list)) }},
		{"NearestPanel", func() []any {
			nearest, least, ok := impl.NearestPanel(p)
			return []any{nearest, least, ok}
		}},
		{"SubstitutesFor", func() []any { return pair(impl.SubstitutesFor(p, list, n)) }},
		{"ValidTickets", func() []any { return single(impl.ValidTickets(p, list)) }},
		{"ChancesOf", func() []any { return pair(impl.ChancesOf(p, list)) }},
		{"PanelOfTicket", func() []any { return pair(impl.PanelOfTicket(p, list, n)) }},
		{"EvenChances", func() []any { return pair(impl.EvenChances(p)) }},
		{"EvenTickets", func() []any { return pair(impl.EvenTickets(p)) }},
		{"LeastChance", func() []any { return pair(impl.LeastChance(p)) }},
		{"BoundBy", func() []any { return pair(impl.BoundBy(p, list)) }},
	}
}

func TestChapter4KeepsTheConventions(t *testing.T) {
	random := rand.New(rand.NewSource(74))
	pools := append(irregularPools(), impl.Pool{People: 7, Size: 3, Quotas: make([]impl.Quota, 50)}, impl.Pool{People: 2, Size: 1, Quotas: []impl.Quota{{Members: make([]int64, 50)}}})
	for _, text := range []string{"1/1", "7/7", "7/1", "4/2", "4/2;0,1=1..1", "3/2;0,1,2=3..3", "3/1;2=0..0;0=1..7"} {
		pools = append(pools, pool(text))
	}
	for _, p := range invalidPools() {
		pools = append(pools, p)
	}
	for _, p := range pools {
		lists := [][]int64{nil, {0}, {0, 2}, {2, 0}, {math.MinInt64, math.MaxInt64}, {1, 1, 1, 1}, {0, 0, 1, impl.MaxTickets}, slices.Repeat([]int64{1}, 50), make([]int64, 50)}
		if impl.ValidPool(p) && len(panelsIn(p)) > 0 {
			panels := panelsIn(p)
			lists = append(lists, panels[0], panels[len(panels)-1], randomTickets(random, len(panels)), randomPrices(random, int(p.People)))
		}
		for _, list := range lists {
			for _, n := range []int64{0, 2, 6, -1, math.MinInt64, math.MaxInt64} {
				p, list := roomy(p), roomy(list)
				checkCalls(t, poolCalls(p, list, n), p, list)
			}
		}
	}
}

func TestCompareEvenKeepsTheConventions(t *testing.T) {
	lists := [][]impl.Fraction{
		nil, {frac(1, 2)}, {frac(1, 2), frac(1, 3)}, {frac(1, 3), frac(1, 2)}, {frac(5, 1), frac(-1, 2), frac(0, 1)}, {frac(1, 0), frac(math.MinInt64, -1)}, {frac(0, 0), frac(1, 2)},
		{frac(math.MinInt64, math.MinInt64)}, slices.Repeat([]impl.Fraction{frac(1, 3), frac(1, 2)}, 25), {frac(7, 1), frac(6, 1), frac(5, 1), frac(4, 1), frac(3, 1), frac(2, 1), frac(1, 1)},
	}
	for _, a := range lists {
		for _, b := range lists {
			a, b := roomy(a), roomy(b)
			checkCalls(t, []call{{"CompareEven", func() []any { return pair(impl.CompareEven(a, b)) }}}, a, b)
		}
	}
}

func TestReadPoolKeepsTheConventions(t *testing.T) {
	long := strings.Repeat("1", 100000)
	for _, s := range []string{"", "1/1", "4/2;0,1=1..1", fullPool, "\x00", "\xff/1", strings.Repeat(";", 100000), strings.Repeat("/", 100000), "2/1;" + strings.Repeat("0,", 100000) + "=0..1", long + "/1", "1/1;0=" + long + ".." + long, "1/1" + strings.Repeat(";0=0..1", 100000)} {
		checkCalls(t, []call{{"ReadPool", func() []any { return pair(impl.ReadPool(s)) }}}, s)
	}
}

// The people are found in any order, but returned in theirs.
func TestSubstitutesAreTheSameEachTime(t *testing.T) {
	p := pool("7/1")
	for range 2000 {
		got, ok := impl.SubstitutesFor(p, []int64{2}, 2)
		expectList(t, "SubstitutesFor", got, ok, []int64{0, 1, 3, 4, 5, 6}, true)
	}
}

func TestChapter4LeavesNothingRunning(t *testing.T) {
	checkNothingRuns(t, func() {
		for _, p := range append(irregularPools(), pool("7/1"), pool("3/2;0,1,2=3..3"), impl.Pool{}) {
			panels, _ := impl.PanelsOf(p)
			for _, list := range append(panels, nil, slices.Repeat([]int64{1}, len(panels))) {
				for _, c := range poolCalls(p, list, 0) {
					c.run()
				}
			}
		}
	})
}
