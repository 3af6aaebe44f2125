package tests

import (
	"fmt"
	"math/big"
	"slices"

	"loop.example/g01095/impl"
)

// row is an equation: the numbers, times their variables, which are at least 0, add up to the value, which is at least 0.
type row struct {
	factors []*big.Rat
	value   *big.Rat
}

func newRow(variables int, value *big.Rat) row {
	r := row{make([]*big.Rat, variables), new(big.Rat).Set(value)}
	for i := range r.factors {
		r.factors[i] = new(big.Rat)
	}
	return r
}

// subtract subtracts a multiple of another row.
func (r row) subtract(other row, times *big.Rat) {
	if times.Sign() == 0 {
		return
	}
	for i, factor := range other.factors {
		if factor.Sign() != 0 {
			r.factors[i].Sub(r.factors[i], new(big.Rat).Mul(times, factor))
		}
	}
	r.value.Sub(r.value, new(big.Rat).Mul(times, other.value))
}

func (r row) divide(by *big.Rat) {
	for _, factor := range r.factors {
		factor.Quo(factor, by)
	}
	r.value.Quo(r.value, by)
}

// best returns the values of the variables with which worth, times these, is greatest. There must be such values. It changes the rows.
//
// At first each row has a variable of its own, which costs so much that it is 0 in the end. The last row tells what can be gained.
func best(rows []row, worth []*big.Rat) []*big.Rat {
	const own, cost = -1, 1000000000
	basis := slices.Repeat([]int{own}, len(rows))
	gain := newRow(len(worth), new(big.Rat))
	for i, w := range worth {
		gain.factors[i].Set(w)
	}
	for _, r := range rows {
		gain.subtract(r, rational(-cost))
	}
	for {
		enters := slices.IndexFunc(gain.factors, func(f *big.Rat) bool { return f.Sign() > 0 })
		if enters < 0 {
			break
		}
		leaves := -1
		for i, r := range rows {
			if r.factors[enters].Sign() <= 0 {
				continue
			}
			order := -1
			if leaves >= 0 {
				order = new(big.Rat).Quo(r.value, r.factors[enters]).Cmp(new(big.Rat).Quo(rows[leaves].value, rows[leaves].factors[enters]))
			}
			if order < 0 || order == 0 && basis[i] < basis[leaves] {
				leaves = i
			}
		}
		basis[leaves] = enters
		rows[leaves].divide(new(big.Rat).Set(rows[leaves].factors[enters]))
		for i, r := range append(rows, gain) {
			if i != leaves {
				r.subtract(rows[leaves], new(big.Rat).Set(r.factors[enters]))
			}
		}
	}
	values := newRow(len(worth), new(big.Rat)).factors
	for i, variable := range basis {
		if variable != own {
			values[variable].Set(rows[i].value)
		} else if rows[i].value.Sign() != 0 {
			panic(fmt.Sprint("there are no such values: ", rows[i].value))
		}
	}
	return values
}

// lotteryRows are the equations of the parts of panels that give each person at least a chance, and exactly that if it is final.
// The variables are the parts, then by how much each chance is greater, and last what is given to each person whose chance is not final, in addition.
func lotteryRows(panels [][]int64, chances []*big.Rat, final []bool) []row {
	people, variables := len(chances), len(panels)+len(chances)+1
	rows := []row{newRow(variables, rational(1))}
	for i := range panels {
		rows[0].factors[i].SetInt64(1)
	}
	for person := range people {
		r := newRow(variables, chances[person])
		for i, panel := range panels {
			if slices.Contains(panel, int64(person)) {
				r.factors[i].SetInt64(1)
			}
		}
		if !final[person] {
			r.factors[len(panels)+person].SetInt64(-1)
			r.factors[variables-1].SetInt64(-1)
		}
		rows = append(rows, r)
	}
	return rows
}

// one returns numbers that are 0 but for one that is 1.
func one(count, at int) []*big.Rat {
	list := newRow(count, new(big.Rat)).factors
	list[at].SetInt64(1)
	return list
}

// evenest returns the most even chances: again and again, the chances that are not final are raised together, and those that no
// lottery makes greater without making another one less become final.
func evenest(panels [][]int64, people int) []*big.Rat {
	chances, final := newRow(people, new(big.Rat)).factors, make([]bool, people)
	variables := len(panels) + people + 1
	for slices.Contains(final, false) {
		more := best(lotteryRows(panels, chances, final), one(variables, variables-1))[variables-1]
		for person := range chances {
			if !final[person] {
				chances[person].Add(chances[person], more)
			}
		}
		stopped := slices.Clone(final)
		for person := range chances {
			if !final[person] {
				gap := len(panels) + person
				rows := lotteryRows(panels, chances, final)
				for _, r := range rows {
					r.factors[variables-1].SetInt64(0)
				}
				stopped[person] = best(rows, one(variables, gap))[gap].Sign() == 0
			}
		}
		final = stopped
	}
	return chances
}

// greatestParts returns the parts of a lottery with some chances: each one as great as it can be, in the order of the panels.
func greatestParts(panels [][]int64, chances []*big.Rat) []*big.Rat {
	parts, left := make([]*big.Rat, len(panels)), rational(1)
	rest := make([]*big.Rat, len(chances))
	for person := range chances {
		rest[person] = new(big.Rat).Set(chances[person])
	}
	for i, panel := range panels {
		if left.Sign() == 0 {
			parts[i] = new(big.Rat)
			continue
		}
		rows := lotteryRows(panels[i:], rest, slices.Repeat([]bool{true}, len(chances)))
		rows[0].value.Set(left)
		parts[i] = best(rows, one(len(rows[0].factors), 0))[0]
		left.Sub(left, parts[i])
		for _, person := range panel {
			rest[person].Sub(rest[person], parts[i])
		}
	}
	return parts
}

// provingPrices returns the prices by which the panel with the greatest sum costs the least part of the sum of all.
func provingPrices(panels [][]int64, people int) []int64 {
	variables := people + 1 + len(panels)
	all := newRow(variables, rational(1))
	rows := []row{all}
	for i, panel := range panels {
		r := newRow(variables, new(big.Rat))
		for _, person := range panel {
			r.factors[person].SetInt64(1)
		}
		r.factors[people].SetInt64(-1)
		r.factors[people+1+i].SetInt64(1)
		rows = append(rows, r)
	}
	for person := range people {
		all.factors[person].SetInt64(1)
	}
	least := newRow(variables, new(big.Rat)).factors
	least[people].SetInt64(-1)
	return integers(best(rows, least)[:people])
}

// integers returns numbers times the least positive integer for which all of them are integers.
func integers(list []*big.Rat) []int64 {
	times := big.NewInt(1)
	for _, r := range list {
		rest := new(big.Int).GCD(nil, nil, times, r.Denom())
		times.Mul(times, new(big.Int).Quo(r.Denom(), rest))
	}
	result := make([]int64, len(list))
	for i, r := range list {
		result[i] = new(big.Rat).Mul(r, new(big.Rat).SetInt(times)).Num().Int64()
	}
	return result
}

// chancesBy returns the chances of people if tickets of panels are drawn.
func chancesBy(panels [][]int64, people int, tickets []int64) []*big.Rat {
	chances, all := newRow(people, new(big.Rat)).factors, int64(0)
	for i, panel := range panels {
		all += tickets[i]
		for _, person := range panel {
			chances[person].Add(chances[person], rational(tickets[i]))
		}
	}
	for _, chance := range chances {
		chance.Quo(chance, rational(all))
	}
	return chances
}

// ticketLists returns all tickets for so many panels with a sum of 1 to most.
func ticketLists(panels int, most int64) [][]int64 {
	lists := [][]int64{nil}
	for range panels {
		var longer [][]int64
		for _, list := range lists {
			left := most
			for _, n := range list {
				left -= n
			}
			for n := range left + 1 {
				longer = append(longer, append(slices.Clone(list), n))
			}
		}
		lists = longer
	}
	return slices.DeleteFunc(lists, func(list []int64) bool { return !slices.ContainsFunc(list, func(n int64) bool { return n > 0 }) })
}

// asFractions returns exact values as fractions, which must be valid.
func asFractions(list []*big.Rat) []impl.Fraction {
	fractions := make([]impl.Fraction, len(list))
	for i, r := range list {
		fractions[i] = frac(r.Num().Int64(), r.Denom().Int64())
	}
	return fractions
}
