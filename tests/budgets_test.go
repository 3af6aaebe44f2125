package tests

import (
	"fmt"
	"math"
	"math/big"
	"math/rand"
	"slices"
	"testing"

	"loop.example/g01095/impl"
)

func TestValidElection(t *testing.T) {
	for _, text := range []string{"0/1/", "0/1/0", "60/60/0", "6/3,1,4/0,1;0,2", "1/1,1,1,1,1,1/;;;;;0,5", "60/60,60,60,60,60,60/0,1,2,3,4,5;0;1;2;3;", fullElection} {
		if !impl.ValidElection(election(text)) {
			t.Errorf("ValidElection of %q is false", text)
		}
	}
	for _, e := range sampleElections(80, 1000) {
		if !impl.ValidElection(e) {
			t.Errorf("ValidElection of %v is false", e)
		}
	}
	if !impl.ValidElection(impl.Election{Costs: []int64{1}, Approvals: [][]int64{{}}}) {
		t.Error("ValidElection is false for an empty list of projects that a voter approves")
	}
	for name, e := range invalidElections() {
		if impl.ValidElection(e) {
			t.Errorf("ValidElection is true for %s: %v", name, e)
		}
	}
}

func TestInvalidElectionsAreRefused(t *testing.T) {
	for name, e := range invalidElections() {
		electionFailures(t, name, e, nil, 0)
		electionFailures(t, name, e, []int64{0}, 1)
		if money, ok := impl.ShareOf(e); ok || money != frac(0, 0) {
			t.Errorf("ShareOf %s: got %v, %v", name, money, ok)
		}
		voters, ok := impl.SupportersOf(e, 0)
		expectList(t, "SupportersOf "+name, voters, ok, nil, false)
		order, ok := impl.EqualShares(e)
		expectList(t, "EqualShares of "+name, order, ok, nil, false)
		order, money, ok := impl.CompletedShares(e)
		expectList(t, "CompletedShares of "+name, order, ok, nil, false)
		expect(t, "money of CompletedShares of "+name, money, ok, 0, false)
		order, ok = impl.GreedyBudget(e)
		expectList(t, "GreedyBudget of "+name, order, ok, nil, false)
		order, times, ok := impl.PhragmenOrder(e)
		expectList(t, "PhragmenOrder of "+name, order, ok, nil, false)
		expect(t, "times of PhragmenOrder of "+name, len(times), ok, 0, false)
	}
}

// electionFailures reports the functions of lists of projects that do not fail, which holds for CostOf and ApprovedIn, too.
func electionFailures(t *testing.T, what string, e impl.Election, list []int64, project int64) {
	t.Helper()
	what = fmt.Sprintf("%s, %v, %v", what, e, list)
	setFailures(t, what, e, list)
	orderFailures(t, what, e, list, project)
}

// setFailures reports the functions of sets of projects that do not fail.
func setFailures(t *testing.T, what string, e impl.Election, set []int64) {
	t.Helper()
	cost, ok := impl.CostOf(e, set)
	expect(t, "CostOf "+what, cost, ok, 0, false)
	approved, ok := impl.ApprovedIn(e, set)
	expectList(t, "ApprovedIn "+what, approved, ok, nil, false)
	group, wishes, ok := impl.UnjustifiedGroup(e, set)
	expectList(t, "group of UnjustifiedGroup "+what, group, ok, nil, false)
	expectList(t, "wishes of UnjustifiedGroup "+what, wishes, ok, nil, false)
}

// orderFailures reports the functions of orders that do not fail.
func orderFailures(t *testing.T, what string, e impl.Election, order []int64, project int64) {
	t.Helper()
	purses, ok := impl.PursesAfter(e, order)
	expect(t, "PursesAfter "+what, len(purses), ok, 0, false)
	price, ok := impl.PriceAfter(e, order, project)
	expect(t, "PriceAfter "+what, price, ok, frac(0, 0), false)
	payments, ok := impl.PaymentsOf(e, order)
	expect(t, "PaymentsOf "+what, len(payments), ok, 0, false)
	for _, payments := range [][][]impl.Fraction{nil, slices.Repeat([][]impl.Fraction{slices.Repeat([]impl.Fraction{frac(0, 1)}, len(e.Approvals))}, len(order))} {
		if impl.IsPaid(e, order, payments) || impl.IsStable(e, order, payments) {
			t.Errorf("IsPaid or IsStable is true for %s, %v", what, payments)
		}
	}
}

func TestShares(t *testing.T) {
	for _, e := range sampleElections(81, 1000) {
		share, ok := impl.ShareOf(e)
		expectFractions(t, fmt.Sprint("ShareOf ", e), []impl.Fraction{share}, ok, fullPurses(e, e.Money)[:1])
	}
	for text, want := range map[string]impl.Fraction{"0/1/;": frac(0, 1), "60/1/0": frac(60, 1), "59/1/;;;;;": frac(59, 6), "60/1/;;;": frac(15, 1), "4/2/;;;;;0": frac(2, 3)} {
		share, ok := impl.ShareOf(election(text))
		expect(t, "ShareOf "+text, share, ok, want, true)
	}
}

func TestSupportersAndSets(t *testing.T) {
	for _, e := range sampleElections(82, 500) {
		for project := range int64(len(e.Costs)) {
			got, ok := impl.SupportersOf(e, project)
			expectList(t, fmt.Sprint("SupportersOf ", e, project), got, ok, supportersIn(e, project), true)
		}
		for _, project := range []int64{-1, int64(len(e.Costs)), math.MinInt64, math.MaxInt64} {
			got, ok := impl.SupportersOf(e, project)
			expectList(t, fmt.Sprint("SupportersOf ", e, project), got, ok, nil, false)
		}
		for _, set := range allSets(int64(len(e.Costs))) {
			cost, ok := impl.CostOf(e, set)
			expect(t, fmt.Sprint("CostOf ", e, set), cost, ok, costIn(e, set), true)
			var want []int64
			for _, approved := range e.Approvals {
				want = append(want, bothIn(approved, set))
			}
			got, ok := impl.ApprovedIn(e, set)
			expectList(t, fmt.Sprint("ApprovedIn ", e, set), got, ok, want, true)
		}
	}
	all := election("60/60,60,60,60,60,60/0,1,2,3,4,5;")
	cost, ok := impl.CostOf(all, []int64{0, 1, 2, 3, 4, 5})
	expect(t, "CostOf all projects", cost, ok, 360, true)
}

func TestListsOfNoProjectsAreRefused(t *testing.T) {
	e := election("60/1,2,3/0,1,2;0,1,2")
	for _, list := range noOrders() {
		electionFailures(t, "no order", e, list, 2)
		for _, project := range []int64{0, 1, 2} {
			orderFailures(t, fmt.Sprint("no order ", list), e, list, project)
		}
	}
	// These are orders, but no sets.
	for _, list := range [][]int64{{1, 0}, {2, 1, 0}, {0, 2, 1}} {
		setFailures(t, fmt.Sprint("no set ", list), e, list)
		if _, ok := impl.PursesAfter(e, list); !ok {
			t.Errorf("PursesAfter %v fails", list)
		}
	}
}

// checkOrder compares the purses, prices and payments for an order.
func checkOrder(t *testing.T, e impl.Election, order []int64) {
	t.Helper()
	what := fmt.Sprint(e, order)
	purses, paid, affordable := afterIn(e, order)
	if !affordable {
		orderFailures(t, what, e, order, 0)
		return
	}
	got, ok := impl.PursesAfter(e, order)
	expectFractions(t, "PursesAfter "+what, got, ok, purses)
	payments, ok := impl.PaymentsOf(e, order)
	if !ok || len(payments) != len(order) {
		t.Errorf("PaymentsOf %s: got %v, %v", what, payments, ok)
	}
	for i := range payments {
		expectFractions(t, fmt.Sprint("PaymentsOf ", what, i), payments[i], ok, paid[i])
	}
	if !impl.IsPaid(e, order, payments) {
		t.Errorf("IsPaid is false for %s, %v", what, payments)
	}
	for project := int64(-1); project <= int64(len(e.Costs)); project++ {
		checkPrice(t, what, e, order, purses, project)
	}
}

// checkPrice checks that a project is paid at its price, and that a lesser price brings in less.
func checkPrice(t *testing.T, what string, e impl.Election, order []int64, purses []*big.Rat, project int64) {
	t.Helper()
	got, ok := impl.PriceAfter(e, order, project)
	voters := supportersIn(e, project)
	has := func(voter int64, least *big.Rat) bool { return purses[voter].Cmp(least) >= 0 }
	if project < 0 || project >= int64(len(e.Costs)) || slices.Contains(order, project) || collected(purses, voters, rational(impl.MaxMoney)).Cmp(rational(e.Costs[project])) < 0 {
		expect(t, fmt.Sprint("PriceAfter ", what, project), got, ok, frac(0, 0), false)
		return
	}
	if !ok || !impl.ValidFraction(got) || collected(purses, voters, exact(got)).Cmp(rational(e.Costs[project])) != 0 || !slices.ContainsFunc(voters, func(voter int64) bool { return has(voter, exact(got)) }) {
		t.Errorf("PriceAfter %s, %d: got %v, %v", what, project, got, ok)
	}
}

func TestOrdersOfSmallElections(t *testing.T) {
	for _, e := range slices.Concat(smallElections(1, 2, 4, 4), smallElections(2, 2, 4, 3), smallElections(2, 3, 5, 2), []impl.Election{election("9/2,3,1/0,1;0,2;1,2")}) {
		for _, order := range orders(others(len(e.Costs), -1)) {
			checkOrder(t, e, order)
			for end := range order {
				checkOrder(t, e, order[:end])
			}
		}
	}
}

func TestOrdersOfLargeElections(t *testing.T) {
	random := rand.New(rand.NewSource(83))
	for _, e := range largeElections(83, 3000) {
		order := randomSet(random, int64(len(e.Costs)), 1+random.Int63n(int64(len(e.Costs))))
		random.Shuffle(len(order), func(i, j int) { order[i], order[j] = order[j], order[i] })
		for end := len(order); end >= 0; end-- {
			checkOrder(t, e, order[:end])
		}
	}
}

func TestPriceCases(t *testing.T) {
	for _, c := range []struct {
		name, text, order string
		project           int64
		price             string
		purses            string // after the project has been bought
	}{
		{"the document's example", "6/3,1,4/0,1;0,2", "", 0, "3/2", "3/2 3/2"},
		{"the document's example, another project", "6/3,1,4/0,1;0,2", "", 1, "1", "2 3"},
		{"the document's example, later", "6/3,1,4/0,1;0,2", "1", 0, "3/2", "1/2 3/2"},
		{"one supporter who pays all", "3/3/0", "", 0, "3", "0"},
		{"all that the supporters have", "6/6/0;0", "", 0, "3", "0 0"},
		{"all that some voters have", "6/4/0;0;", "", 0, "2", "0 0 2"},
		{"all that supporters have who have different amounts", "6/1,5/0,1;1", "0", 1, "3", "0 0"},
		{"a voter who pays with all that it has", "12/5,8/0,1;1;1", "", 1, "8/3", "4/3 4/3 4/3"},
		{"a voter who pays with all that it has, later", "18/5,8/0,1;1;1", "0", 1, "7/2", "0 5/2 5/2"},
		{"two voters who pay with all that they have", "12/2,2,4/0,2;1,2;2;", "0,1", 2, "2", "0 0 1 3"},
		{"a voter who has nothing left", "4/2,1/0,1;1", "0", 1, "1", "0 1"},
		{"voters who have nothing left pay nothing", "6/4,1/0,1;0,1;1", "0", 1, "1", "0 0 1"},
		{"a voter whose purse is the price", "6/1,4/0,1;1", "0", 1, "2", "0 1"},
		{"others pay nothing", "60/7/;0;;0;0;", "", 0, "7/3", "10 23/3 10 23/3 23/3 10"},
		{"the most money", "60/60/0", "", 0, "60", "0"},
		{"the least part of a voter", "1/1/0;0;0;0;0;0", "", 0, "1/6", "0 0 0 0 0 0"},
	} {
		e, order := election(c.text), numbers(c.order)
		price, ok := impl.PriceAfter(e, order, c.project)
		expect(t, c.name+": PriceAfter", fractionsText([]impl.Fraction{price}), ok, c.price, true)
		purses, ok := impl.PursesAfter(e, append(order, c.project))
		expect(t, c.name+": PursesAfter", fractionsText(purses), ok, c.purses, true)
	}
}

func TestProjectsThatAreNotAffordable(t *testing.T) {
	for _, c := range []struct {
		name, text, order string
		project           int64
	}{
		{"no money", "0/1/0", "", 0},
		{"no supporter", "60/1,1/1", "", 0},
		{"one more than all have", "6/7/0;0", "", 0},
		{"one more than some have", "6/5/0;0;", "", 0},
		{"more than is left", "6/3,4/0,1;0,1", "0", 1},
		{"a part more than is left", "5/1,3/0,1;1;", "0", 1},
		{"nothing left", "6/6,1/0,1;0,1", "0", 1},
		{"no project", "6/1/0", "", 1},
		{"a negative number", "6/1/0", "", -1},
		{"the first one of order", "6/1,1/0,1", "0", 0},
		{"the last one of order", "6/1,1,1/0,1,2", "2,0", 0},
	} {
		e, order := election(c.text), numbers(c.order)
		if _, ok := impl.PursesAfter(e, order); !ok {
			t.Errorf("%s: PursesAfter %v fails", c.name, order)
		}
		price, ok := impl.PriceAfter(e, order, c.project)
		expect(t, c.name, price, ok, frac(0, 0), false)
		orderFailures(t, c.name, e, append(order, c.project), c.project)
	}
	for _, c := range []struct{ name, text, order string }{
		{"the first one", "6/7,1,1/0,1,2;0,1,2", "0,1,2"},
		{"the one in the middle", "6/1,6,1/0,1,2;0,1,2", "0,1,2"},
		{"the last one", "6/1,3,3/0,1,2;0,1,2", "0,1,2"},
		{"the last one, which was affordable at first", "6/2,2,3/0,2;1,2", "0,1,2"},
	} {
		for project := range int64(3) {
			orderFailures(t, c.name+" is not affordable", election(c.text), numbers(c.order), project)
		}
	}
}

func TestEmptyOrder(t *testing.T) {
	for _, text := range []string{"0/1/", "6/3,1,4/0,1;0,2", fullElection} {
		e := election(text)
		for _, order := range [][]int64{nil, {}} {
			purses, ok := impl.PursesAfter(e, order)
			expectFractions(t, "PursesAfter nothing in "+text, purses, ok, fullPurses(e, e.Money))
			payments, ok := impl.PaymentsOf(e, order)
			expect(t, "PaymentsOf nothing in "+text, len(payments), ok, 0, true)
			if !impl.IsPaid(e, order, payments) {
				t.Errorf("IsPaid of nothing in %q is false", text)
			}
		}
	}
}
