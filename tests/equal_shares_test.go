package tests

import (
	"fmt"
	"slices"
	"testing"

	"loop.example/g01095/impl"
)

// checkBought checks what promise 6 says of an order that is bought by equal shares: it is paid by those who approve its projects,
// at the least prices, and nothing else can be paid.
func checkBought(t *testing.T, e impl.Election, order []int64) {
	t.Helper()
	what := fmt.Sprint(e, order)
	payments, ok := impl.PaymentsOf(e, order)
	if !ok || !impl.IsPaid(e, order, payments) || !impl.IsStable(e, order, payments) {
		t.Errorf("%s: bought with the payments %v, %v, which are not paid or not stable", what, payments, ok)
	}
	for i, bought := range order {
		price, _ := impl.PriceAfter(e, order[:i], bought)
		for project := range int64(len(e.Costs)) {
			other, ok := impl.PriceAfter(e, order[:i], project)
			if less, _ := impl.CompareFractions(other, price); ok && (less < 0 || less == 0 && project < bought) {
				t.Errorf("%s: %d is bought at %v, but %d costs %v", what, bought, price, project, other)
			}
		}
	}
	for project := range int64(len(e.Costs)) {
		if price, ok := impl.PriceAfter(e, order, project); ok {
			t.Errorf("%s: %d can still be bought at %v", what, project, price)
		}
	}
}

// checkJustified checks that no group has less than its due, and that the projects do not cost too much.
func checkJustified(t *testing.T, e impl.Election, order []int64) {
	t.Helper()
	set := slices.Sorted(slices.Values(order))
	if group, wishes, ok := impl.UnjustifiedGroup(e, set); ok {
		t.Errorf("%v, %v: the group %v could have had %v", e, order, group, wishes)
	}
	if cost, ok := impl.CostOf(e, set); !ok || cost > e.Money {
		t.Errorf("%v, %v: the cost is %d, %v", e, order, cost, ok)
	}
}

func TestEqualShares(t *testing.T) {
	for _, e := range slices.Concat(smallElections(3, 2, 4, 2), sampleElections(84, 4000)) {
		order, ok := impl.EqualShares(e)
		expectList(t, fmt.Sprint("EqualShares of ", e), order, ok, equalIn(e, e.Money), true)
		checkBought(t, e, order)
		checkJustified(t, e, order)
	}
}

func TestEqualSharesCases(t *testing.T) {
	for _, c := range []struct {
		name, text, order, purses string
	}{
		{"the document's example", "6/3,1,4/0,1;0,2", "1,0", "1/2 3/2"},
		{"no money", "0/1,1/0,1;0,1", "", "0 0"},
		{"no approvals", "60/1,1/;", "", "30 30"},
		{"projects without a supporter", "6/1,2,1/1;1", "1", "2 2"},
		{"nothing affordable", "6/4,4/0;1", "", "3 3"},
		{"all that the supporters have", "6/3,3/0;1", "0,1", "0 0"},
		{"all that all have", "60/60/0;0;0;0;0;0", "0", "0 0 0 0 0 0"},
		{"one more than all have", "59/60/0;0;0;0;0;0", "", "59/6 59/6 59/6 59/6 59/6 59/6"},
		{"the same price", "6/2,2,2/0,1,2;0,1,2", "0,1,2", "0 0"},
		{"the same price at different costs", "12/2,1,3/0,1,2;0,2;2", "0,1,2", "1 2 3"},
		{"the same price, and money for one of them", "4/3,3/0,1;0,1", "0", "1/2 1/2"},
		{"the same price of others than the first", "12/6,2,2,2/0;1;2;3", "1,2,3", "3 1 1 1"},
		{"the same price after another project", "8/4,2,1/0,2;0,1", "2,0,1", "1 0"},
		{"a lesser price of the last one", "6/3,2,1/0,1,2;0,1,2", "2,1,0", "0 0"},
		{"a dear project with many supporters first", "12/5,2/0;0;0;1", "0,1", "4/3 4/3 4/3 1"},
		{"a price that grows when others pay", "6/5,1/0;0,1", "1,0", "0 0"},
		{"a project that is not affordable any more", "6/4,2/0;1", "1", "3 1"},
		{"a project that was affordable", "6/5,2/0,1;0", "1", "1 3"},
		{"a project that comes before a cheaper one", "6/6,5/0;0,1", "0", "0 0"},
		{"voters who pay with all that they have", "18/2,14/0,1;1;1", "0,1", "0 1 1"},
	} {
		e := election(c.text)
		order, ok := impl.EqualShares(e)
		expectList(t, c.name+": EqualShares", order, ok, numbers(c.order), true)
		purses, ok := impl.PursesAfter(e, order)
		expect(t, c.name+": PursesAfter", fractionsText(purses), ok, c.purses, true)
		checkBought(t, e, order)
		checkJustified(t, e, order)
	}
}

func TestCompletedShares(t *testing.T) {
	for _, e := range slices.Concat(smallElections(1, 2, 2, 2), smallElections(2, 2, 2, 2), largeElections(85, 300)) {
		order, money, ok := impl.CompletedShares(e)
		want, wantMoney := completedIn(e)
		expectList(t, fmt.Sprint("CompletedShares of ", e), order, ok, want, true)
		expect(t, fmt.Sprint("money of CompletedShares of ", e), money, ok, wantMoney, true)
		checkJustified(t, e, order)
		virtual := impl.Election{Money: money, Costs: e.Costs, Approvals: e.Approvals}
		if money <= impl.MaxMoney {
			checkBought(t, virtual, order)
		}
	}
}

func TestCompletedSharesCases(t *testing.T) {
	for _, c := range []struct {
		name, text, order string
		money             int64
	}{
		{"the document's example", "6/3,1,4/0,1;0,2", "1,0", 10},
		{"all projects at once", "5/2,3/0,1;0,1", "0,1", impl.MaxVirtual},
		{"all projects, the most money", "60/60/0", "0", impl.MaxVirtual},
		{"no money", "0/1/0", "", 0},
		{"no money, and two voters", "0/2/0;0", "", 1},
		{"no money, and a dear project", "0/60/0", "", 59},
		{"no money, and no approvals", "0/1/", "", impl.MaxVirtual},
		{"no approvals", "7/1,1/;;", "", impl.MaxVirtual},
		{"a project without a supporter", "7/3,60/0", "0", impl.MaxVirtual},
		{"a project that is reached only beyond Money", "4/3/0;", "0", impl.MaxVirtual},
		{"a project that is reached at MaxVirtual", "60/60/0;;;;;", "0", impl.MaxVirtual},
		{"a project that costs too much at MaxVirtual", "59/60/0;;;;;", "", impl.MaxVirtual - 1},
		{"projects that are reached together and cost too much", "4/3,3/0;1", "", 5},
		{"projects that are reached together and cost just Money", "6/3,3,1/0;1;", "0,1", impl.MaxVirtual},
		{"too much with one more", "6/3,4/0,1", "0", 6},
		{"a project that comes and another one that costs too much", "5/3,3/0;0,1", "0", 8},
		{"other projects on the way", "5/2,1,3,3,1/1,3,4;0,2,3,4", "4,1,3", 7},
		{"projects that cost less again with still more money", "4/2,2,3/;2;0,1,2;0,1,2;0", "0", 7},
	} {
		e := election(c.text)
		order, money, ok := impl.CompletedShares(e)
		expectList(t, c.name+": CompletedShares", order, ok, numbers(c.order), true)
		expect(t, c.name+": money", money, ok, c.money, true)
		checkJustified(t, e, order)
	}
}
