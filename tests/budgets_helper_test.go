package tests

import (
	"math"
	"math/big"
	"math/rand"
	"slices"
	"strings"

	"loop.example/g01095/impl"
)

// fullElection has as many projects and voters, and as great costs, as can be, and the most money.
const fullElection = "60/60,59,58,1,2,60/0,1,2,3,4,5;0,1,2,3,4,5;0,2,4;1,3,5;5;"

// election writes an election as its money, the costs and, with a semicolon between two voters, what they approve.
func election(text string) impl.Election {
	words := strings.Split(text, "/")
	e := impl.Election{Money: numbers(words[0])[0], Costs: numbers(words[1])}
	for _, approved := range strings.Split(words[2], ";") {
		e.Approvals = append(e.Approvals, numbers(approved))
	}
	return e
}

// smallElections returns all elections with so many projects and voters, at most so much money and at most such costs.
func smallElections(projects, voters int, money, cost int64) []impl.Election {
	elections := []impl.Election{{}}
	extend := func(longer func(e impl.Election) []impl.Election) {
		var all []impl.Election
		for _, e := range elections {
			all = append(all, longer(e)...)
		}
		elections = all
	}
	for range projects {
		extend(func(e impl.Election) (all []impl.Election) {
			for c := range cost {
				all = append(all, impl.Election{Costs: slices.Concat(e.Costs, []int64{c + 1}), Approvals: e.Approvals})
			}
			return all
		})
	}
	for range voters {
		extend(func(e impl.Election) (all []impl.Election) {
			for _, approved := range allSets(int64(projects)) {
				all = append(all, impl.Election{Costs: e.Costs, Approvals: append(slices.Clone(e.Approvals), approved)})
			}
			return all
		})
	}
	extend(func(e impl.Election) (all []impl.Election) {
		for n := range money + 1 {
			all = append(all, impl.Election{Money: n, Costs: e.Costs, Approvals: e.Approvals})
		}
		return all
	})
	return elections
}

// allSets returns all sets of numbers from 0 to bound - 1, in lexicographic order.
func allSets(bound int64) [][]int64 {
	var sets [][]int64
	for size := range bound + 1 {
		sets = append(sets, combinations(bound, size)...)
	}
	slices.SortFunc(sets, slices.Compare)
	return sets
}

// randomElection returns a valid election. Many have equal costs, or costs near the shares.
func randomElection(random *rand.Rand) impl.Election {
	e := impl.Election{Money: random.Int63n(impl.MaxMoney + 1)}
	projects, voters := 1+random.Int63n(impl.MaxProjects), 1+random.Int63n(impl.MaxVoters)
	most := []int64{3, 12, e.Money + 1, impl.MaxMoney}[random.Intn(4)]
	for range projects {
		e.Costs = append(e.Costs, min(1+random.Int63n(most), impl.MaxMoney))
	}
	dense := 1 + random.Intn(4)
	for range voters {
		var approved []int64
		for project := range projects {
			if random.Intn(5) < dense {
				approved = append(approved, project)
			}
		}
		e.Approvals = append(e.Approvals, approved)
	}
	return e
}

// sampleElections are small elections, and random ones of all sizes.
func sampleElections(seed int64, count int) []impl.Election {
	random := rand.New(rand.NewSource(seed))
	elections := slices.Concat(smallElections(1, 1, 2, 2), smallElections(1, 2, 3, 3), smallElections(2, 1, 3, 2), smallElections(2, 2, 4, 3))
	elections = append(elections, election(fullElection))
	for range count {
		elections = append(elections, randomElection(random))
	}
	return elections
}

// largeElections are the random ones of the sample elections, which are larger.
func largeElections(seed int64, count int) []impl.Election {
	elections := sampleElections(seed, count)
	return elections[len(elections)-count:]
}

// invalidElections are elections that break one bound each.
func invalidElections() map[string]impl.Election {
	list := map[string]impl.Election{
		"no election":   {},
		"no projects":   {Money: 1, Approvals: [][]int64{nil}},
		"no voters":     {Money: 1, Costs: []int64{1}},
		"far money":     {Money: math.MaxInt64, Costs: []int64{1}, Approvals: [][]int64{{0}}},
		"least money":   {Money: math.MinInt64, Costs: []int64{1}, Approvals: [][]int64{{0}}},
		"a far cost":    {Money: 1, Costs: []int64{math.MaxInt64}, Approvals: [][]int64{{0}}},
		"a least cost":  {Money: 1, Costs: []int64{math.MinInt64}, Approvals: [][]int64{{0}}},
		"a far number":  {Money: 1, Costs: []int64{1}, Approvals: [][]int64{{0, math.MaxInt64}}},
		"least numbers": {Money: 1, Costs: []int64{1}, Approvals: [][]int64{{math.MinInt64, 0}}},
	}
	for _, text := range []string{
		"-1/1/0", "61/1/0", "1/0/0", "1/61/0", "60/1,61/0", "60/1,0/0", "60/-1,1/1", "1//", "1/1,1,1,1,1,1,1/0", "1/1/0;0;0;0;0;0;0",
		"1/1/1", "1/1/-1", "1/1,1/0,0", "1/1,1/1,0", "1/1,1/0;2", "1/1,1/0;1;0;0,2", "1/1,1,1/0,1,1", "1/1,1,1/0,2,1", "1/1,1,1/;;2,1", "1/1/;;;;;0,0",
	} {
		list[text] = election(text)
	}
	return list
}

// noOrders are lists that are no lists of different ones of three projects.
func noOrders() [][]int64 {
	return [][]int64{{3}, {-1}, {0, 0}, {0, 1, 0}, {1, 0, 1}, {0, 1, 2, 0}, {0, 1, 2, 3}, {0, 3}, {2, -1}, {math.MaxInt64}, {math.MinInt64}, {0, 1 << 32}, {0, math.MinInt64, 0}}
}

func supportersIn(e impl.Election, project int64) []int64 {
	var voters []int64
	for voter := range e.Approvals {
		for _, approved := range e.Approvals[voter] {
			if approved == project {
				voters = append(voters, int64(voter))
			}
		}
	}
	return voters
}

func costIn(e impl.Election, projects []int64) (sum int64) {
	for _, project := range projects {
		sum += e.Costs[project]
	}
	return sum
}

// bothIn counts the numbers that two lists have in common.
func bothIn(a, b []int64) (count int64) {
	for _, n := range a {
		if slices.Contains(b, n) {
			count++
		}
	}
	return count
}

// fullPurses returns the shares of so much money.
func fullPurses(e impl.Election, money int64) []*big.Rat {
	purses := make([]*big.Rat, len(e.Approvals))
	for voter := range purses {
		purses[voter] = big.NewRat(money, int64(len(purses)))
	}
	return purses
}

func lesser(a, b *big.Rat) *big.Rat {
	if a.Cmp(b) < 0 {
		return a
	}
	return b
}

// collected returns what some voters pay at a price.
func collected(purses []*big.Rat, voters []int64, price *big.Rat) *big.Rat {
	sum := new(big.Rat)
	for _, voter := range voters {
		sum.Add(sum, lesser(price, purses[voter]))
	}
	return sum
}

// priceIn returns the price of a project. Between two purses that follow one another by value, what is collected grows evenly.
func priceIn(e impl.Election, purses []*big.Rat, project int64) (*big.Rat, bool) {
	voters, cost := supportersIn(e, project), rational(e.Costs[project])
	levels := []*big.Rat{new(big.Rat)}
	for _, voter := range voters {
		levels = append(levels, purses[voter])
	}
	slices.SortFunc(levels, (*big.Rat).Cmp)
	for i, level := range levels {
		if collected(purses, voters, level).Cmp(cost) < 0 {
			continue
		}
		low := levels[i-1]
		grown := new(big.Rat).Sub(collected(purses, voters, level), collected(purses, voters, low))
		part := new(big.Rat).Sub(cost, collected(purses, voters, low))
		price := part.Mul(part.Quo(part, grown), new(big.Rat).Sub(level, low))
		return price.Add(price, low), true
	}
	return nil, false
}

// payIn takes the price of a project out of the purses, and returns what each voter pays.
func payIn(e impl.Election, purses []*big.Rat, project int64, price *big.Rat) []*big.Rat {
	paid := make([]*big.Rat, len(purses))
	for voter, purse := range purses {
		paid[voter] = new(big.Rat)
		if slices.Contains(e.Approvals[voter], project) {
			paid[voter].Set(lesser(price, purse))
			purses[voter] = new(big.Rat).Sub(purse, paid[voter])
		}
	}
	return paid
}

// afterIn returns the purses and the payments after an order, and false if a project is not affordable.
func afterIn(e impl.Election, order []int64) ([]*big.Rat, [][]*big.Rat, bool) {
	purses := fullPurses(e, e.Money)
	var payments [][]*big.Rat
	for _, project := range order {
		price, ok := priceIn(e, purses, project)
		if !ok {
			return nil, nil, false
		}
		payments = append(payments, payIn(e, purses, project, price))
	}
	return purses, payments, true
}

// equalIn returns the projects that so much money buys by equal shares.
func equalIn(e impl.Election, money int64) []int64 {
	var order []int64
	for purses := fullPurses(e, money); ; {
		next, least := int64(-1), new(big.Rat)
		for i := range e.Costs {
			if project := int64(i); !slices.Contains(order, project) {
				if price, ok := priceIn(e, purses, project); ok && (next < 0 || price.Cmp(least) < 0) {
					next, least = project, price
				}
			}
		}
		if next < 0 {
			return order
		}
		payIn(e, purses, next, least)
		order = append(order, next)
	}
}

// completedIn returns the completed shares by trying one Money after another.
func completedIn(e impl.Election) ([]int64, int64) {
	order, money := equalIn(e, e.Money), e.Money
	for money < impl.MaxVirtual {
		more := equalIn(e, money+1)
		if costIn(e, more) > e.Money {
			break
		}
		order, money = more, money+1
	}
	return order, money
}

// greedyIn asks again and again for the project with the most supporters.
func greedyIn(e impl.Election) []int64 {
	var seen, chosen []int64
	for range e.Costs {
		next := int64(-1)
		for i := range e.Costs {
			project := int64(i)
			if !slices.Contains(seen, project) && (next < 0 || len(supportersIn(e, project)) > len(supportersIn(e, next))) {
				next = project
			}
		}
		seen = append(seen, next)
		if len(supportersIn(e, next)) > 0 && costIn(e, chosen)+e.Costs[next] <= e.Money {
			chosen = append(chosen, next)
		}
	}
	return chosen
}

// phragmenIn lets the time pass until the supporters of some project have its cost. Only then it is bought or left out.
func phragmenIn(e impl.Election) ([]int64, []*big.Rat) {
	var order, leftOut []int64
	var times []*big.Rat
	money, now := make([]*big.Rat, len(e.Approvals)), new(big.Rat)
	for voter := range money {
		money[voter] = new(big.Rat)
	}
	for {
		next, wait := int64(-1), new(big.Rat)
		for i := range e.Costs {
			voters := supportersIn(e, int64(i))
			if len(voters) == 0 || slices.Contains(order, int64(i)) || slices.Contains(leftOut, int64(i)) {
				continue
			}
			missing := rational(e.Costs[i])
			for _, voter := range voters {
				missing.Sub(missing, money[voter])
			}
			missing.Quo(missing, rational(int64(len(voters))))
			if next < 0 || missing.Cmp(wait) < 0 {
				next, wait = int64(i), missing
			}
		}
		if next < 0 {
			return order, times
		}
		now = new(big.Rat).Add(now, wait)
		for voter := range money {
			money[voter].Add(money[voter], wait)
		}
		if costIn(e, order)+e.Costs[next] > e.Money {
			leftOut = append(leftOut, next)
			continue
		}
		order, times = append(order, next), append(times, now)
		for _, voter := range supportersIn(e, next) {
			money[voter].SetInt64(0)
		}
	}
}

// isUnjustified reports whether a set is unjustified for a group and wishes, as the document says it.
func isUnjustified(e impl.Election, set, group, wishes []int64) bool {
	if len(group) == 0 || len(wishes) == 0 || costIn(e, wishes)*int64(len(e.Approvals)) > e.Money*int64(len(group)) {
		return false
	}
	for _, voter := range group {
		if bothIn(e.Approvals[voter], wishes) < int64(len(wishes)) || bothIn(e.Approvals[voter], set) >= int64(len(wishes)) {
			return false
		}
	}
	return true
}

// unjustifiedIn returns all groups and wishes for which a set is unjustified, in lexicographic order.
func unjustifiedIn(e impl.Election, set []int64) [][2][]int64 {
	var all [][2][]int64
	for _, group := range allSets(int64(len(e.Approvals))) {
		for _, wishes := range allSets(int64(len(e.Costs))) {
			if isUnjustified(e, set, group, wishes) {
				all = append(all, [2][]int64{group, wishes})
			}
		}
	}
	return all
}
