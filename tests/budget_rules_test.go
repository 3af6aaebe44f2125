package tests

import (
	"fmt"
	"slices"
	"testing"

	"loop.example/g01095/impl"
)

func TestGreedyBudget(t *testing.T) {
	for _, e := range slices.Concat(smallElections(3, 2, 4, 2), sampleElections(88, 5000)) {
		chosen, ok := impl.GreedyBudget(e)
		expectList(t, fmt.Sprint("GreedyBudget of ", e), chosen, ok, greedyIn(e), true)
	}
}

func TestGreedyBudgetCases(t *testing.T) {
	for _, c := range []struct{ name, text, chosen string }{
		{"the document's example", "6/3,1,4/0,1;0,2", "0,1"},
		{"no money", "0/1,1/0,1;0,1", ""},
		{"no approvals", "60/1,1/;", ""},
		{"no supporter", "60/1,1,1/1;1", "1"},
		{"more supporters first", "6/1,6/0,1;1", "1"},
		{"many supporters last", "60/1,1,1,1/0,3;1,3;2,3;1", "3,1,0,2"},
		{"equal numbers of supporters", "6/3,3,3/0,1,2;0,1,2", "0,1"},
		{"equal numbers of different supporters", "60/1,2,3,1/2,3;1,3;0,1;0,2", "0,1,2,3"},
		{"equal numbers after a greater one", "60/1,1,1/0,2;1,2", "2,0,1"},
		{"one that is too dear, and one that is not", "6/4,3,2/0,1,2;0,1;", "0,2"},
		{"one that is too dear at first", "6/7,6/0,1;0", "1"},
		{"just what is left", "6/4,2/0,1;0", "0,1"},
		{"one more than what is left", "6/4,3/0,1;0", "0"},
		{"nothing left", "6/6,1/0,1;0", "0"},
		{"as many projects as can be", fullElection, "5"},
	} {
		chosen, ok := impl.GreedyBudget(election(c.text))
		expectList(t, c.name, chosen, ok, numbers(c.chosen), true)
	}
}

func TestPhragmenOrder(t *testing.T) {
	for _, e := range slices.Concat(smallElections(3, 2, 4, 2), sampleElections(89, 5000)) {
		what := fmt.Sprint("PhragmenOrder of ", e)
		want, wantTimes := phragmenIn(e)
		order, times, ok := impl.PhragmenOrder(e)
		expectList(t, what, order, ok, want, true)
		expectFractions(t, what+": times", times, ok, wantTimes)
	}
}

func TestPhragmenOrderCases(t *testing.T) {
	for _, c := range []struct{ name, text, order, times string }{
		{"the document's example", "6/3,1,4/0,1;0,2", "1,0", "1 2"},
		{"no money", "0/1,1/0,1;0,1", "", ""},
		{"no approvals", "60/1,1/;", "", ""},
		{"no supporter", "60/1,2/1;", "1", "2"},
		{"one after another", "60/20,20,20/0,1,2;", "0,1,2", "20 40 60"},
		{"at the same time", "6/2,2/0;1", "0,1", "2 2"},
		{"three at the same time", "60/6,4,2/0;0;1;0;2;1", "0,1,2", "2 2 2"},
		{"at the same time, but the money is spent", "6/2,2/0,1;0,1", "0,1", "1 2"},
		{"at the same time, but some money is spent", "9/2,4/0,1;1;", "0,1", "2 3"},
		{"at the same time, later", "60/1,3,4/0,1;2", "0,1,2", "1 4 4"},
		{"at parts of a unit of time", "60/1,4,8/0,1;1,2;2", "0,1,2", "1 5/2 21/4"},
		{"at the same time, the first one left out", "3/4,2/0,1;0", "1", "2"},
		{"at the same time, the last one left out", "3/2,2/0;1", "0", "2"},
		{"with no money left", "3/1,2/0;1", "0,1", "1 2"},
		{"with no money left, and one at the same time", "3/1,2,1/0;1;;2", "0,2", "1 1"},
		{"nothing after the money is spent", "3/3,1/0,1;0;0", "0", "1"},
		{"left out, as too little is left", "3/3,1/0;1", "1", "1"},
		{"left out, as it costs more than Money", "5/6,5/0,1;0", "1", "5"},
		{"left out without being paid", "5/3,3,2/0,1,2;0,1", "0,2", "3/2 7/2"},
		{"left out, as cheaper ones leave too little", "4/3,2,1/0,1,2;0,1,2", "2,1", "1/2 3/2"},
		{"all left out", "1/2,3,60/0,1,2;0", "", ""},
		{"at small parts of a unit of time", "60/1,1,5,2,2,1/0,2,3,4,5;0,1,2,4,5;0,1,2,3,4,5;0,1,2,3,5;0,1,3,4,5;1,2,3,4,5", "5,0,1,3,4,2", "1/6 11/30 79/150 671/750 4579/3750 40421/18750"},
		{"many supporters", "60/60/0;0;0;0;0;0", "0", "10"},
		{"a late supporter", "60/2,5/0,1;1", "0,1", "2 7/2"},
	} {
		order, times, ok := impl.PhragmenOrder(election(c.text))
		expectList(t, c.name, order, ok, numbers(c.order), true)
		expect(t, c.name+": times", fractionsText(times), ok, c.times, true)
	}
}
