package tests

import (
	"math"
	"slices"
	"testing"

	"loop.example/g01095/impl"
)

// electionCalls are the functions of an election alone.
func electionCalls(e impl.Election) []call {
	return []call{
		{"ValidElection", func() []any { return single(impl.ValidElection(e)) }},
		{"ShareOf", func() []any { return pair(impl.ShareOf(e)) }},
		{"EqualShares", func() []any { return pair(impl.EqualShares(e)) }},
		{"CompletedShares", func() []any {
			order, money, ok := impl.CompletedShares(e)
			return []any{order, money, ok}
		}},
		{"GreedyBudget", func() []any { return pair(impl.GreedyBudget(e)) }},
		{"PhragmenOrder", func() []any {
			order, times, ok := impl.PhragmenOrder(e)
			return []any{order, times, ok}
		}},
	}
}

// projectCalls are the functions of an election, a list of its projects, which is a set or an order, and a project.
func projectCalls(e impl.Election, list []int64, project int64) []call {
	return []call{
		{"SupportersOf", func() []any { return pair(impl.SupportersOf(e, project)) }},
		{"CostOf", func() []any { return pair(impl.CostOf(e, list)) }},
		{"ApprovedIn", func() []any { return pair(impl.ApprovedIn(e, list)) }},
		{"PursesAfter", func() []any { return pair(impl.PursesAfter(e, list)) }},
		{"PriceAfter", func() []any { return pair(impl.PriceAfter(e, list, project)) }},
		{"PaymentsOf", func() []any { return pair(impl.PaymentsOf(e, list)) }},
		{"UnjustifiedGroup", func() []any {
			group, wishes, ok := impl.UnjustifiedGroup(e, list)
			return []any{group, wishes, ok}
		}},
	}
}

// paymentCalls are the functions of an election, an order and payments.
func paymentCalls(e impl.Election, order []int64, payments [][]impl.Fraction) []call {
	return []call{
		{"IsPaid", func() []any { return single(impl.IsPaid(e, order, payments)) }},
		{"IsStable", func() []any { return single(impl.IsStable(e, order, payments)) }},
	}
}

// unusualElections are small, full, invalid or very long.
func unusualElections() []impl.Election {
	elections := []impl.Election{
		{Money: 1, Costs: make([]int64, 50), Approvals: make([][]int64, 50)},
		{Money: 1, Costs: slices.Repeat([]int64{1}, 6), Approvals: slices.Repeat([][]int64{nil}, 50)},
		{Money: 1, Costs: slices.Repeat([]int64{1}, 50), Approvals: [][]int64{{0}}},
		{Money: 1, Costs: []int64{1}, Approvals: [][]int64{make([]int64, 50)}},
	}
	for _, text := range []string{"0/1/", "60/60/0", "6/3,1,4/0,1;0,2", "12/5,8/0,1;1;1", "5/2,1,3,3,1/1,3,4;0,2,3,4", "60/1,1,1,1,1,1/0,1,2,3,4,5;;;0,1;4,5;0,5", fullElection} {
		elections = append(elections, election(text))
	}
	for _, e := range invalidElections() {
		elections = append(elections, e)
	}
	return elections
}

func TestChapter5KeepsTheConventions(t *testing.T) {
	lists := append(noOrders(), nil, []int64{0}, []int64{1, 0}, []int64{0, 1}, []int64{0, 2}, []int64{0, 1, 2, 3, 4, 5}, make([]int64, 50))
	for _, e := range unusualElections() {
		whole := roomy(e)
		checkCalls(t, electionCalls(whole), whole)
		bought, _ := impl.EqualShares(e)
		for _, list := range append(lists, bought) {
			for _, project := range []int64{0, 2, 6, -1, math.MinInt64, math.MaxInt64} {
				e, list := roomy(e), roomy(list)
				checkCalls(t, projectCalls(e, list, project), e, list)
			}
		}
	}
}

func TestPaymentsKeepTheConventions(t *testing.T) {
	lists := [][][]impl.Fraction{
		nil, {nil}, {nil, nil}, paid("1 0;3/2 3/2"), paid("1 0"), paid("1"), paid("0 0"), {{frac(math.MinInt64, -1), frac(1, 0)}}, {{frac(math.MaxInt64, 1), frac(0, 0)}, {frac(0, 1), frac(math.MinInt64, math.MinInt64)}},
		make([][]impl.Fraction, 50), {make([]impl.Fraction, 50)}, paid("1/999999937 1/999999929"),
	}
	for _, e := range unusualElections() {
		bought, _ := impl.EqualShares(e)
		payments, _ := impl.PaymentsOf(e, bought)
		for _, order := range [][]int64{nil, {0}, {1, 0}, {0, 0}, {-1}, {math.MaxInt64}, make([]int64, 50), bought} {
			for _, list := range append(lists, payments) {
				e, order, list := roomy(e), roomy(order), roomy(list)
				checkCalls(t, paymentCalls(e, order, list), e, order, list)
			}
		}
	}
}

func TestChapter5LeavesNothingRunning(t *testing.T) {
	checkNothingRuns(t, func() {
		for _, e := range unusualElections() {
			for _, c := range slices.Concat(electionCalls(e), projectCalls(e, nil, 0)) {
				c.run()
			}
		}
	})
}
