package tests

import (
	"fmt"
	"math/rand"
	"slices"
	"strconv"
	"strings"
	"testing"

	"loop.example/g01095/impl"
)

// paid writes payments with semicolons between the projects and blanks between the voters. The fractions may be invalid.
func paid(text string) [][]impl.Fraction {
	var payments [][]impl.Fraction
	for _, row := range strings.FieldsFunc(text, func(r rune) bool { return r == ';' }) {
		var list []impl.Fraction
		for _, word := range strings.Fields(row) {
			above, below, divided := strings.Cut(word, "/")
			f := frac(0, 1)
			f.Num, _ = strconv.ParseInt(above, 10, 64)
			if divided {
				f.Den, _ = strconv.ParseInt(below, 10, 64)
			}
			list = append(list, f)
		}
		payments = append(payments, list)
	}
	return payments
}

// sumIn adds valid fractions one after another, and fails if a sum on the way is out of bounds.
func sumIn(list []impl.Fraction) (impl.Fraction, bool) {
	sum, ok := frac(0, 1), true
	for _, f := range list {
		if sum, ok = fitting(exact(sum).Add(exact(sum), exact(f))); !ok {
			return frac(0, 0), false
		}
	}
	return sum, true
}

// spentIn returns what each voter pays, and false if the payments do not pay for the order as the document says.
func spentIn(e impl.Election, order []int64, payments [][]impl.Fraction) ([]impl.Fraction, bool) {
	if len(payments) != len(order) {
		return nil, false
	}
	for i, project := range order {
		if len(payments[i]) != len(e.Approvals) {
			return nil, false
		}
		for voter, f := range payments[i] {
			if !impl.ValidFraction(f) || f.Num < 0 || f.Num > 0 && !slices.Contains(e.Approvals[voter], project) {
				return nil, false
			}
		}
		if sum, ok := sumIn(payments[i]); !ok || exact(sum).Cmp(rational(e.Costs[project])) != 0 {
			return nil, false
		}
	}
	var spent []impl.Fraction
	for voter, share := range fullPurses(e, e.Money) {
		var own []impl.Fraction
		for i := range order {
			own = append(own, payments[i][voter])
		}
		sum, ok := sumIn(own)
		if !ok || exact(sum).Cmp(share) > 0 {
			return nil, false
		}
		spent = append(spent, sum)
	}
	return spent, true
}

// stableIn reports whether what voters have left after some payments is stable, as the document says.
func stableIn(e impl.Election, order []int64, spent []impl.Fraction) bool {
	for i := range e.Costs {
		project := int64(i)
		if slices.Contains(order, project) {
			continue
		}
		var left []impl.Fraction
		for _, voter := range supportersIn(e, project) {
			share := fullPurses(e, e.Money)[voter]
			rest, ok := fitting(share.Sub(share, exact(spent[voter])))
			if !ok {
				return false
			}
			left = append(left, rest)
		}
		if sum, ok := sumIn(left); !ok || exact(sum).Cmp(rational(e.Costs[i])) >= 0 {
			return false
		}
	}
	return true
}

// checkPayments compares IsPaid and IsStable, and returns what they are.
func checkPayments(t *testing.T, e impl.Election, order []int64, payments [][]impl.Fraction) (bool, bool) {
	t.Helper()
	spent, isPaid := spentIn(e, order, payments)
	isStable := isPaid && stableIn(e, order, spent)
	if got := impl.IsPaid(e, order, payments); got != isPaid {
		t.Errorf("IsPaid of %v, %v, %v: got %v", e, order, payments, got)
	}
	if got := impl.IsStable(e, order, payments); got != isStable {
		t.Errorf("IsStable of %v, %v, %v: got %v", e, order, payments, got)
	}
	return isPaid, isStable
}

// randomPayments returns, for each project of an order, payments of its supporters that add up to its cost, but may be too great.
func randomPayments(random *rand.Rand, e impl.Election, order []int64) [][]impl.Fraction {
	var payments [][]impl.Fraction
	for _, project := range order {
		parts := []int64{1, 2, 6, 35, 40000, 40001}[random.Intn(6)]
		row := slices.Repeat([]impl.Fraction{frac(0, 1)}, len(e.Approvals))
		voters, left := supportersIn(e, project), e.Costs[project]*parts
		for i, voter := range voters {
			own := left
			if i+1 < len(voters) {
				own = random.Int63n(2*left/int64(len(voters)-i) + 1)
			}
			row[voter], _ = impl.FractionOf(own, parts)
			left -= own
		}
		payments = append(payments, row)
	}
	return payments
}

// changedPayments returns payments that differ at one place.
func changedPayments(random *rand.Rand, payments [][]impl.Fraction) [][]impl.Fraction {
	changed := make([][]impl.Fraction, len(payments))
	for i := range payments {
		changed[i] = slices.Clone(payments[i])
	}
	if len(changed) == 0 {
		return append(changed, nil)
	}
	row := random.Intn(len(changed))
	voter := random.Intn(len(changed[row]))
	switch random.Intn(6) {
	case 0:
		return append(changed, changed[row])
	case 1:
		return changed[1:]
	case 2:
		changed[row] = changed[row][1:]
	case 3:
		changed[row] = append(changed[row], frac(0, 1))
	case 4:
		changed[row][voter].Num += random.Int63n(5) - 2
	case 5:
		changed[row][voter], changed[row][0] = changed[row][0], changed[row][voter]
	}
	return changed
}

func TestPayments(t *testing.T) {
	random := rand.New(rand.NewSource(86))
	var countPaid, countStable int
	check := func(e impl.Election, order []int64, payments [][]impl.Fraction) {
		isPaid, isStable := checkPayments(t, e, order, payments)
		if isPaid {
			countPaid++
		}
		if isStable {
			countStable++
		}
	}
	for _, e := range sampleElections(86, 4000) {
		order := equalIn(e, e.Money)
		payments, _ := impl.PaymentsOf(e, order)
		check(e, order, payments)
		check(e, order, changedPayments(random, payments))
		random.Shuffle(len(order), func(i, j int) { order[i], order[j] = order[j], order[i] })
		order = order[:random.Intn(len(order)+1)]
		for range 4 {
			payments = randomPayments(random, e, order)
			check(e, order, payments)
			check(e, order, changedPayments(random, payments))
		}
	}
	if countPaid < 5000 || countStable < 2000 || countPaid < countStable+1000 {
		t.Errorf("of the payments, only %d are paid, %d stable", countPaid, countStable)
	}
}

func TestPaidCases(t *testing.T) {
	const example, rich = "6/3,1,4/0,1;0,2", "60/3,1/0,1;0"
	for _, c := range []struct {
		name, text, order, payments string
		isPaid                      bool
	}{
		{"the document's example", example, "1,0", "1 0;3/2 3/2", true},
		{"the other order", example, "0,1", "3/2 3/2;1 0", true},
		{"other payments", example, "1,0", "1 0;1/2 5/2", true},
		{"the whole share", example, "1,0", "1 0;2 1", true},
		{"one voter pays for all", example, "0", "0 3", true},
		{"nothing bought", example, "", "", true},
		{"nothing bought, and no money", "0/1/0", "", "", true},
		{"more than the share", example, "1,0", "1 0;5/2 1/2", false},
		{"a small part more than the share", example, "1,0", "1 0;2000000/999999 999997/999999", false},
		{"more than the share of one who has none left", "6/3,3/0,1;0,1", "0,1", "3 0;1 2", false},
		{"no money", "0/1/0", "0", "1", false},
		{"too little", example, "1,0", "1 0;3/2 1", false},
		{"nothing", example, "1,0", "1 0;0 0", false},
		{"a small part too little", example, "1", "999999999/1000000000 0", false},
		{"too much", example, "1,0", "1 0;3/2 2", false},
		{"a small part too much", example, "1", "1000000000/999999999 0", false},
		{"too little for one and too much for the other", rich, "0,1", "1 1;2 0", false},
		{"a supporter gets something", rich, "0", "4 -1", false},
		{"the first supporter gets something", rich, "0", "-1 4", false},
		{"another one gets something", rich, "1", "2 -1", false},
		{"another one pays", example, "1", "1/2 1/2", false},
		{"another one pays all", example, "1", "0 1", false},
		{"only another one can pay", "6/1/;", "0", "1 0", false},
		{"the payments of the other order", example, "1,0", "3/2 3/2;1 0", false},
		{"terms that are not the lowest", example, "0", "2/2 2", false},
		{"a 0 whose terms are not the lowest", example, "1", "1 0/2", false},
		{"no fraction", example, "1", "1 0/0", false},
		{"no fraction, which would be 1", example, "1", "-1/-1 0", false},
		{"a negative divisor", example, "1", "1 0/-1", false},
		{"a fraction beyond MaxTerm", example, "1", "1 1/1000000001", false},
		{"no payments", example, "1,0", "", false},
		{"payments for nothing", example, "", "0 0", false},
		{"payments for the first project", example, "1,0", "1 0", false},
		{"payments for one more project", example, "1,0", "1 0;3/2 3/2;0 0", false},
		{"payments of one voter", example, "1,0", "1;3/2 3/2", false},
		{"payments of one voter for the last project", "6/3,1,4/0,1;0,2", "0,1", "3/2 3/2;1", false},
		{"payments of one more voter", example, "1,0", "1 0 0;3/2 3/2", false},
		{"payments of no voter", example, "1", " ", false},
		{"a project twice", example, "1,1", "1 0;1 0", false},
		{"no project", example, "3", "0 0", false},
		{"a negative number", example, "-1", "0 0", false},
		{"no election", "61/1/0", "", "", false},
		{"sums on the way that exist", "12/2/0;0;0;0", "0", "1/40000 39999/40000 1/40001 40000/40001", true},
		{"a sum on the way that does not exist", "12/2/0;0;0;0", "0", "1/40000 1/40001 39999/40000 40000/40001", false},
		{"sums of a voter that exist", "12/1,1,1,1/0,1,2,3;0,1,2,3", "0,1,2,3", "1/40000 39999/40000;39999/40000 1/40000;1/40001 40000/40001;40000/40001 1/40001", true},
		{"a sum of a voter that does not exist", "12/1,1,1,1/0,1,2,3;0,1,2,3", "0,1,2,3", "1/40000 39999/40000;1/40001 40000/40001;39999/40000 1/40000;40000/40001 1/40001", false},
		{"sums of a voter that exist in this order", "12/1,1,1,1/0,1,2,3;0,1,2,3", "0,2,1,3", "1/40000 39999/40000;39999/40000 1/40000;1/40001 40000/40001;40000/40001 1/40001", true},
	} {
		e, order, payments := election(c.text), numbers(c.order), paid(c.payments)
		if c.payments == " " {
			payments = make([][]impl.Fraction, 1)
		}
		if got := impl.IsPaid(e, order, payments); got != c.isPaid {
			t.Errorf("%s: IsPaid is %v", c.name, got)
		}
		if !c.isPaid && impl.IsStable(e, order, payments) {
			t.Errorf("%s: IsStable is true", c.name)
		}
	}
}

func TestStableCases(t *testing.T) {
	// In the last cases, what some voter has left, or a sum of it, is no fraction within the bounds.
	const two = "1/40000 0 39999/40000 0;0 1/40001 0 40000/40001"
	for _, c := range []struct {
		name, text, order, payments string
		isStable                    bool
	}{
		{"the document's example", "6/3,1,4/0,1;0,2", "1,0", "1 0;3/2 3/2", true},
		{"the document's example, one project", "6/3,1,4/0,1;0,2", "1", "1 0", false},
		{"payments that leave enough", "12/3,1,4/0,1;0,2", "0,1", "3/2 3/2;1 0", false},
		{"other payments, which do not", "12/3,1,4/0,1;0,2", "0,1", "1/2 5/2;1 0", true},
		{"nothing bought", "6/3,1,4/0,1;0,2", "", "", false},
		{"nothing bought, and nothing affordable", "6/7,4/0,1;0", "", "", true},
		{"no money", "0/1/0", "", "", true},
		{"no supporter", "6/1/;", "", "", true},
		{"all bought", "6/1,1/0;1", "0,1", "1 0;0 1", true},
		{"just the cost left", "6/3,3/0,1;0,1", "0", "3/2 3/2", false},
		{"just the cost left of one voter", "6/3,3/0,1;1", "0", "3 0", false},
		{"less than the cost left of one voter", "6/3,3/0,1;0,1;", "0", "3/2 3/2 0", true},
		{"just the cost left of two voters", "6/3,3/0;0,1;1", "0", "2 1 0", false},
		{"a small part less than the cost left", "6/3,3/0;0,1;1", "0", "1999999/1000000 1000001/1000000 0", true},
		{"others have enough left", "9/3,2/0,1;;", "0", "3 0 0", true},
		{"the last project", "12/1,1,60,2/0,1,2,3;3", "0,1", "1 0;1 0", false},
		{"nobody of those who pay approves more", "6/2,4/0;0;1", "0", "1 1 0", true},
		{"what is left of a supporter", "7/1,60/0,1;0;", "0", "1/999999937 999999936/999999937 0", false},
		{"what is left of the last supporter", "7/1,60/0;0,1;1", "0", "1/999999937 999999936/999999937 0", false},
		{"what is left of others", "7/1,60/0;0;1", "0", "1/999999937 999999936/999999937 0", true},
		{"what is left of those whose projects are bought", "7/1,60/0;0;", "0", "1/999999937 999999936/999999937 0", true},
		{"what is left for the last project", "7/1,60,60/0,2;0;1", "0", "1/999999937 999999936/999999937 0", false},
		{"the sum of what is left", "8/1,1,60/0,2;1,2;0;1", "0,1", two, false},
		{"a sum on the way of what is left", "8/1,1,60/0,2;1,2;0,2;1,2", "0,1", two, false},
		{"the sum of what is left of others", "8/1,1,60/0,2;1;0,2;1", "0,1", two, true},
		{"sums in the order of the voters", "8/1,1,60/0,2;0,2;1,2;1,2", "0,1", "1/40000 39999/40000 0 0;0 0 1/40001 40000/40001", true},
		{"one after another in the order of the voters", "8/1,1,60/0,2;0,2;1,2;1,2", "1,0", "0 0 1/40001 40000/40001;1/40000 39999/40000 0 0", true},
	} {
		e, order, payments := election(c.text), numbers(c.order), paid(c.payments)
		if !impl.IsPaid(e, order, payments) {
			t.Errorf("%s: IsPaid is false", c.name)
		}
		if got := impl.IsStable(e, order, payments); got != c.isStable {
			t.Errorf("%s: IsStable is %v", c.name, got)
		}
	}
}

func TestUnjustifiedGroup(t *testing.T) {
	several := 0
	for _, e := range slices.Concat(smallElections(2, 2, 4, 3), smallElections(3, 2, 3, 1), largeElections(87, 60)) {
		for _, set := range allSets(int64(len(e.Costs))) {
			all := unjustifiedIn(e, set)
			if len(all) > 1 {
				several++
			}
			all = append(all, [2][]int64{})
			group, wishes, ok := impl.UnjustifiedGroup(e, set)
			what := fmt.Sprint("UnjustifiedGroup ", e, set)
			expectList(t, what, group, ok, all[0][0], len(all) > 1)
			expectList(t, what+": wishes", wishes, ok, all[0][1], len(all) > 1)
		}
	}
	if several < 500 {
		t.Errorf("only %d sets are unjustified for several groups and wishes", several)
	}
}

func TestUnjustifiedGroupCases(t *testing.T) {
	for _, c := range []struct {
		name, text, set, group, wishes string
	}{
		{"the document's example", "6/3,1,4/0,1;0,2", "", "0", "0"},
		{"a project that both approve", "6/3,1,4/0,1;0,2", "0", "", ""},
		{"wishes that cost just the share", "6/3,1,4/0,1;0,2", "1", "1", "0"},
		{"wishes that cost more than the share", "5/3,1,4/0,1;0,2", "1", "", ""},
		{"a project of the other voter", "6/3,1,4/0,1;0,2", "2", "0", "0"},
		{"no money", "0/1,1/0,1;0,1", "", "", ""},
		{"no approvals", "60/1,1/;", "", "", ""},
		{"projects of nobody", "60/1,1/0;0", "1", "0", "0"},
		{"no projects for the last voter", "60/1,1/0;1;", "0", "1", "1"},
		{"several wishes, the least of which is not shortest", "60/1,1/0,1", "0", "0", "0,1"},
		{"the first of several wishes", "60/1,1,1/1,2", "", "0", "1"},
		{"wishes without a project in between", "6/1,60,1/0,1,2", "0", "0", "0,2"},
		{"wishes that all are bought already", "60/1,1,1/0,1,2", "0,1", "0", "0,1,2"},
		{"all bought", "60/1,1,1/0,1,2", "0,1,2", "", ""},
		{"a group with the first voter before one without it", "6/6,1/0;0,1", "", "0,1", "0"},
		{"a group without a voter in between", "6/4,60/0;;0", "", "0,2", "0"},
		{"a group of all", "60/60/0;0;0;0;0;0", "", "0,1,2,3,4,5", "0"},
		{"a group of all but one", "60/51/0;0;0;0;0;", "", "", ""},
		{"a group of all but one, just due", "60/50/0;0;0;0;0;", "", "0,1,2,3,4", "0"},
		{"a group with one who has enough", "6/6,1/0,1;0", "1", "", ""},
		{"a group with one who does not approve all", "6/3,3/0,1;0", "0", "", ""},
		{"all of the group approve the wishes", "6/3,3/0,1;0,1", "0", "0,1", "0,1"},
	} {
		group, wishes, ok := impl.UnjustifiedGroup(election(c.text), numbers(c.set))
		expectList(t, c.name+": group", group, ok, numbers(c.group), c.group != "")
		expectList(t, c.name+": wishes", wishes, ok, numbers(c.wishes), c.group != "")
	}
}
