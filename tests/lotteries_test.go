package tests

import (
	"fmt"
	"math"
	"math/rand"
	"slices"
	"testing"

	"loop.example/g01095/impl"
)

// invalidTickets are no tickets for four panels.
func invalidTickets() map[string][]int64 {
	return map[string][]int64{
		"no list":                     nil,
		"too few":                     {1, 1, 1},
		"too many":                    {1, 1, 1, 1, 0},
		"no tickets":                  {0, 0, 0, 0},
		"a negative number":           {-1, 1, 1, 1},
		"a negative number, sum 0":    {-1, 1, 0, 0},
		"the last one negative":       {1, 1, 1, -1},
		"one beyond MaxTickets":       {impl.MaxTickets + 1, 0, 0, 0},
		"a sum beyond MaxTickets":     {impl.MaxTickets, 0, 0, 1},
		"a sum far beyond MaxTickets": {impl.MaxTickets, impl.MaxTickets, impl.MaxTickets, impl.MaxTickets},
		"a sum beyond int64":          {math.MaxInt64, math.MaxInt64, 3, 0},
		"a sum that wraps to 1":       {math.MaxInt64, math.MinInt64, 1, 1},
		"the least number":            {math.MinInt64, 1, 1, 1},
		"a sum of 0 modulo 2^64":      {1 << 62, 1 << 62, 1 << 62, 1 << 62},
	}
}

func TestValidTickets(t *testing.T) {
	p := pool("4/2;0,1=1..1")
	for _, tickets := range [][]int64{{1, 0, 0, 0}, {0, 0, 0, 1}, {1, 2, 0, 1}, {impl.MaxTickets, 0, 0, 0}, {0, impl.MaxTickets - 1, 0, 1}, {250000, 250000, 250000, 250000}} {
		if !impl.ValidTickets(p, tickets) {
			t.Errorf("ValidTickets is false for %v", tickets)
		}
	}
	for name, tickets := range invalidTickets() {
		ticketFailures(t, name, p, tickets)
	}
	ticketFailures(t, "a sum that wraps to 1, of seven panels", pool("7/1"), []int64{1 << 62, 1 << 62, 1 << 62, 1 << 62, 1, 0, 0})
	for _, text := range []string{"3/2;0,1,2=3..3", "3/2;2=7..7"} {
		for _, tickets := range [][]int64{nil, {}, {0}, {1}, {1, 1, 1}} {
			ticketFailures(t, "tickets of a pool without panels", pool(text), tickets)
		}
	}
	for name, p := range invalidPools() {
		for _, tickets := range [][]int64{nil, {1}, {1, 1}, slices.Repeat([]int64{1}, 35)} {
			ticketFailures(t, "tickets of "+name, p, tickets)
		}
	}
}

// ticketFailures reports the functions that do not fail for invalid tickets.
func ticketFailures(t *testing.T, what string, p impl.Pool, tickets []int64) {
	t.Helper()
	if impl.ValidTickets(p, tickets) {
		t.Errorf("%s: ValidTickets is true for %v", what, tickets)
	}
	chances, ok := impl.ChancesOf(p, tickets)
	expect(t, what+": ChancesOf", len(chances), ok, 0, false)
	panel, ok := impl.PanelOfTicket(p, tickets, 0)
	expectList(t, what+": PanelOfTicket", panel, ok, nil, false)
}

// randomTickets returns valid tickets for so many panels, of which many are 0.
func randomTickets(random *rand.Rand, panels int) []int64 {
	tickets := make([]int64, panels)
	most := []int64{1, 3, 100, impl.MaxTickets / int64(panels)}[random.Intn(4)]
	for i := range tickets {
		if random.Intn(3) == 0 {
			tickets[i] = random.Int63n(most + 1)
		}
	}
	tickets[random.Intn(panels)] = most
	return tickets
}

func TestChances(t *testing.T) {
	random := rand.New(rand.NewSource(65))
	for _, p := range lotteryPools(65, 400) {
		panels := panelsIn(p)
		tickets := randomTickets(random, len(panels))
		what := fmt.Sprintf("%q, %v", poolText(p), tickets)
		if !impl.ValidTickets(p, tickets) {
			t.Errorf("ValidTickets of %s is false", what)
		}
		got, ok := impl.ChancesOf(p, tickets)
		expectFractions(t, "ChancesOf "+what, got, ok, chancesBy(panels, int(p.People), tickets))
		if sum, ok := impl.SumFractions(got); ok && sum != frac(p.Size, 1) {
			t.Errorf("ChancesOf %s: the sum is %v", what, sum)
		}
	}
}

// The tickets of each panel are as many as it has, and follow those of the panels before.
func TestPanelOfTicket(t *testing.T) {
	random := rand.New(rand.NewSource(66))
	for _, p := range lotteryPools(66, 300) {
		panels := panelsIn(p)
		tickets, first := randomTickets(random, len(panels)), int64(0)
		draws := func(ticket int64, want []int64) {
			got, ok := impl.PanelOfTicket(p, tickets, ticket)
			expectList(t, fmt.Sprintf("PanelOfTicket %q, %v, %d", poolText(p), tickets, ticket), got, ok, want, want != nil)
		}
		for i, panel := range panels {
			if tickets[i] > 0 {
				draws(first, panel)
				draws(first+tickets[i]-1, panel)
				draws(first+random.Int63n(tickets[i]), panel)
			}
			first += tickets[i]
		}
		for _, ticket := range []int64{-1, first, first + 1, impl.MaxTickets, math.MinInt64, math.MaxInt64} {
			if ticket < 0 || ticket >= first {
				draws(ticket, nil)
			}
		}
	}
}

func TestTicketCases(t *testing.T) {
	for _, c := range []struct {
		name, text string
		tickets    []int64
		chances    string
		panels     string // of all tickets
	}{
		{"an example", "4/2;0,1=1..1", []int64{1, 2, 0, 1}, "3/4 1/4 1/4 3/4", "[[0 2] [0 3] [0 3] [1 3]]"},
		{"one panel", "3/2;0,2=2..2", []int64{1}, "1 0 1", "[[0 2]]"},
		{"one panel with several tickets", "1/1", []int64{3}, "1", "[[0] [0] [0]]"},
		{"no ticket of the first panel", "3/1", []int64{0, 1, 1}, "0 1/2 1/2", "[[1] [2]]"},
		{"no ticket of the last panel", "3/1", []int64{2, 1, 0}, "2/3 1/3 0", "[[0] [0] [1]]"},
		{"tickets that are not in lowest terms", "3/1", []int64{2, 2, 0}, "1/2 1/2 0", "[[0] [0] [1] [1]]"},
		{"a person in every panel and one in none", "4/2;1=1..1;2=0..0", []int64{1, 2}, "1/3 1 0 2/3", "[[0 1] [1 3] [1 3]]"},
	} {
		p, all := pool(c.text), int64(0)
		for _, n := range c.tickets {
			all += n
		}
		chances, ok := impl.ChancesOf(p, c.tickets)
		expect(t, c.name+": ChancesOf", fractionsText(chances), ok, c.chances, true)
		var panels [][]int64
		for ticket := range all {
			panel, _ := impl.PanelOfTicket(p, c.tickets, ticket)
			panels = append(panels, panel)
		}
		expect(t, c.name+": PanelOfTicket", fmt.Sprint(panels), true, c.panels, true)
	}
	p := pool("2/1")
	chances, ok := impl.ChancesOf(p, []int64{impl.MaxTickets - 1, 1})
	expect(t, "ChancesOf MaxTickets", fractionsText(chances), ok, "999999/1000000 1/1000000", true)
	for ticket, want := range map[int64][]int64{0: {0}, impl.MaxTickets - 2: {0}, impl.MaxTickets - 1: {1}} {
		panel, ok := impl.PanelOfTicket(p, []int64{impl.MaxTickets - 1, 1}, ticket)
		expectList(t, fmt.Sprint("PanelOfTicket of MaxTickets, ", ticket), panel, ok, want, true)
	}
}

// evenOrder compares lists by the greatest of their least chances first.
func evenOrder(a, b []impl.Fraction) int64 {
	x, y := slices.Clone(a), slices.Clone(b)
	for len(x) > 0 {
		i, j := leastIndex(x), leastIndex(y)
		if order := exact(x[i]).Cmp(exact(y[j])); order != 0 {
			return int64(order)
		}
		x, y = slices.Delete(x, i, i+1), slices.Delete(y, j, j+1)
	}
	return 0
}

func leastIndex(list []impl.Fraction) int {
	least := 0
	for i, f := range list {
		if exact(f).Cmp(exact(list[least])) < 0 {
			least = i
		}
	}
	return least
}

func TestCompareEven(t *testing.T) {
	random := rand.New(rand.NewSource(67))
	values := []impl.Fraction{frac(0, 1), frac(1, 1), frac(1, 2), frac(1, 3), frac(2, 3), frac(-1, 2), frac(-1, 3), frac(impl.MaxTerm, 1), frac(-impl.MaxTerm, 1), frac(1, impl.MaxTerm), frac(999999999, impl.MaxTerm), frac(impl.MaxTerm, 999999999)}
	for range 20000 {
		length, some := random.Intn(impl.MaxPool+1), 1+random.Intn(len(values))
		a, b := make([]impl.Fraction, length), make([]impl.Fraction, length)
		for i := range length {
			a[i], b[i] = values[random.Intn(some)], values[random.Intn(some)]
		}
		want := evenOrder(a, b)
		got, ok := impl.CompareEven(a, b)
		expect(t, fmt.Sprint("CompareEven ", a, b), got, ok, want, true)
		got, ok = impl.CompareEven(b, a)
		expect(t, fmt.Sprint("CompareEven ", b, a), got, ok, -want, true)
		same := slices.Clone(a)
		random.Shuffle(length, func(i, j int) { same[i], same[j] = same[j], same[i] })
		got, ok = impl.CompareEven(a, same)
		expect(t, fmt.Sprint("CompareEven in another order ", a, same), got, ok, 0, true)
	}
}

func TestCompareEvenCases(t *testing.T) {
	half, third := frac(1, 2), frac(1, 3)
	for _, c := range []struct {
		name string
		a, b []impl.Fraction
		want int64
		ok   bool
	}{
		{"no chances", nil, []impl.Fraction{}, 0, true},
		{"equal ones", []impl.Fraction{half}, []impl.Fraction{half}, 0, true},
		{"the least one decides", []impl.Fraction{frac(1, 4), frac(1, 1)}, []impl.Fraction{third, third}, -1, true},
		{"equal after sorting", []impl.Fraction{half, third, half}, []impl.Fraction{third, half, half}, 0, true},
		{"the last one decides", []impl.Fraction{half, third, half}, []impl.Fraction{third, half, frac(1, 1)}, -1, true},
		{"the longest lists", slices.Repeat([]impl.Fraction{half}, impl.MaxPool), slices.Repeat([]impl.Fraction{third}, impl.MaxPool), 1, true},
		{"lists that are too long", slices.Repeat([]impl.Fraction{half}, impl.MaxPool+1), slices.Repeat([]impl.Fraction{half}, impl.MaxPool+1), 0, false},
		{"a shorter list", []impl.Fraction{half, half}, []impl.Fraction{half}, 0, false},
		{"a longer list", []impl.Fraction{half}, []impl.Fraction{half, half}, 0, false},
		{"no list and one", nil, []impl.Fraction{half}, 0, false},
		{"a zero fraction", []impl.Fraction{{}}, []impl.Fraction{half}, 0, false},
		{"a zero fraction on the other side", []impl.Fraction{half}, []impl.Fraction{{}}, 0, false},
		{"terms that are not the lowest", []impl.Fraction{half, frac(2, 4)}, []impl.Fraction{half, half}, 0, false},
		{"a negative denominator", []impl.Fraction{half, half}, []impl.Fraction{half, frac(1, -2)}, 0, false},
		{"a term beyond", []impl.Fraction{frac(impl.MaxTerm+1, 1)}, []impl.Fraction{half}, 0, false},
		{"a last fraction that does not matter", []impl.Fraction{half, {}}, []impl.Fraction{third, half}, 0, false},
		{"extreme terms", []impl.Fraction{frac(math.MinInt64, math.MinInt64)}, []impl.Fraction{half}, 0, false},
	} {
		got, ok := impl.CompareEven(c.a, c.b)
		expect(t, c.name, got, ok, c.want, c.ok)
	}
}
