package tests

import (
	"fmt"
	"math"
	"math/big"
	"math/rand"
	"slices"
	"testing"

	"loop.example/g01095/impl"
)

// irregularPools have panels that leave no simple even chances: some have several lotteries with the same chances, in some the
// chances rise in several steps.
func irregularPools() []impl.Pool {
	var pools []impl.Pool
	for _, text := range []string{
		fullPool, "7/3;0,1,2=1..1;3,4=1..1", "7/3;0,1=1..2;2,3,4=0..1;5,6=1..1", "7/4;0,1,2=1..1;0,3=0..1;4,5,6=2..2", "7/3;0,1,2,3=1..2;3,4,5=1..1;0,6=0..1;1,4=0..1",
		"7/4;0,1,2,3,4=2..2;0,5=0..1;1,6=0..1;2,5=1..1", "7/3;0,1,3=2..2;1,2,4=1..2;0,5,6=1..1", "6/3;0,1=1..1;1,2=1..1;2,3=1..1;3,4=1..1;4,5=1..1", "6/3;0,1,2=2..2;2,3=0..1;4,5=0..1",
		"7/2;0,1,2=0..1;3,4,5=0..1;0,3=0..1;1,4=0..1;2,5=0..1;6=0..0", "7/5;0,1=1..1;2,3=1..2;0,2,4=1..2;5,6=1..2", "5/2;0,1=0..1;1,2=0..1;2,3=0..1;3,4=0..1;0,4=0..1",
	} {
		pools = append(pools, pool(text))
	}
	return pools
}

// No lottery has more even chances, and of those with these chances none has greater parts first.
func TestEvenLotteries(t *testing.T) {
	steps := map[int]int{}
	for _, p := range slices.Concat(irregularPools(), lotteryPools(68, 150)) {
		panels, what := panelsIn(p), " of "+poolText(p)
		want := evenest(panels, int(p.People))
		even, ok := impl.EvenChances(p)
		expectFractions(t, "EvenChances"+what, even, ok, want)
		tickets, ok := impl.EvenTickets(p)
		expectList(t, "EvenTickets"+what, tickets, ok, integers(greatestParts(panels, want)), true)
		if chances, ok := impl.ChancesOf(p, tickets); !ok || !slices.Equal(chances, even) {
			t.Errorf("ChancesOf EvenTickets%s: got %v, %v, want %v", what, chances, ok, even)
		}
		least, ok := impl.LeastChance(p)
		expect(t, "LeastChance"+what, least, ok, even[leastIndex(even)], true)
		slices.SortFunc(even, func(a, b impl.Fraction) int { return exact(a).Cmp(exact(b)) })
		steps[len(slices.Compact(even))]++
	}
	if steps[1] == 0 || steps[2] == 0 || steps[3] == 0 || steps[4] == 0 {
		t.Errorf("the pools have too few different chances each: %v", steps)
	}
}

// All tickets with a small sum are compared.
func TestNoTicketsAreMoreEven(t *testing.T) {
	several := 0
	for _, p := range lotteryPools(69, 250) {
		panels := panelsIn(p)
		if len(panels) > 6 {
			continue
		}
		even, _ := impl.EvenChances(p)
		mine, _ := impl.EvenTickets(p)
		all := int64(0)
		for _, n := range mine {
			all += n
		}
		for _, tickets := range ticketLists(len(panels), max(4, min(all, 6))) {
			chances := asFractions(chancesBy(panels, int(p.People), tickets))
			order, ok := impl.CompareEven(chances, even)
			if !ok || order > 0 || (order == 0) != slices.Equal(chances, even) {
				t.Errorf("%q: the tickets %v have the chances %v, EvenChances are %v", poolText(p), tickets, chances, even)
			}
			if order < 0 {
				continue
			}
			if greater := compareParts(tickets, mine); greater > 0 {
				t.Errorf("%q: the tickets %v come before %v", poolText(p), tickets, mine)
			} else if greater < 0 {
				several++
			}
		}
	}
	if several < 10 {
		t.Errorf("only %d tickets have the same chances as others", several)
	}
}

// compareParts compares tickets by their parts of the whole.
func compareParts(a, b []int64) int {
	sumA, sumB := int64(0), int64(0)
	for i := range a {
		sumA, sumB = sumA+a[i], sumB+b[i]
	}
	for i := range a {
		if order := big.NewRat(a[i], sumA).Cmp(big.NewRat(b[i], sumB)); order != 0 {
			return order
		}
	}
	return 0
}

// The tickets are as few as they can be, and each person's chance is exactly the one that is stated.
func TestEvenTicketsAreTickets(t *testing.T) {
	for _, p := range slices.Concat(irregularPools(), lotteryPools(70, 800)) {
		tickets, ok := impl.EvenTickets(p)
		if !ok || !impl.ValidTickets(p, tickets) {
			t.Fatalf("EvenTickets of %q: got %v, %v", poolText(p), tickets, ok)
		}
		divisor := new(big.Int)
		for _, n := range tickets {
			divisor.GCD(nil, nil, divisor, big.NewInt(n))
		}
		if divisor.Int64() != 1 {
			t.Errorf("EvenTickets of %q: %v have the common divisor %v", poolText(p), tickets, divisor)
		}
		even, ok := impl.EvenChances(p)
		expectFractions(t, "EvenChances of "+poolText(p), even, ok, chancesBy(panelsIn(p), int(p.People), tickets))
	}
}

func TestEvenCases(t *testing.T) {
	for _, c := range []struct {
		name, text, chances, tickets string
	}{
		{"the document's first example", "4/2;0,1=1..1", "1/2 1/2 1/2 1/2", "[1 0 0 1]"},
		{"the document's second example", "3/2;0=1..1", "1 1/2 1/2", "[1 1]"},
		{"one person", "1/1", "1", "[1]"},
		{"all people", "7/7", "1 1 1 1 1 1 1", "[1]"},
		{"one panel", "4/2;1=1..1;3=1..7", "0 1 0 1", "[1]"},
		{"single people", "3/1", "1/3 1/3 1/3", "[1 1 1]"},
		{"all but one", "3/2", "2/3 2/3 2/3", "[1 1 1]"},
		{"somebody in no panel", "3/1;2=0..0", "1/2 1/2 0", "[1 1]"},
		{"somebody in every panel", "4/2;0,1,2=1..1", "1/3 1/3 1/3 1", "[1 1 1]"},
		{"the one in every panel, the other in none", "4/2;1=1..1;2=0..0", "1/2 1 0 1/2", "[1 1]"},
		{"several lotteries, pairs of four", "4/2", "1/2 1/2 1/2 1/2", "[1 0 0 0 0 1]"},
		{"several lotteries, pairs of five", "5/2", "2/5 2/5 2/5 2/5 2/5", "[2 0 0 0 0 0 0 1 1 1]"},
		{"three of six", "6/3", "1/2 1/2 1/2 1/2 1/2 1/2", "[1 0 0 0 0 0 0 0 0 0 0 0 0 0 0 0 0 0 0 1]"},
		{"three of seven", "7/3", "3/7 3/7 3/7 3/7 3/7 3/7 3/7", "[3 0 0 0 0 0 0 0 0 0 0 0 0 0 0 0 0 0 0 0 0 0 0 0 0 0 0 0 0 0 0 1 1 1 1]"},
		{"two steps", "4/2;0,1,2=1..2;3=0..1;0=0..0", "0 2/3 2/3 2/3", "[1 1 1]"},
		{"a group of one and a group of three", "4/2;0=0..1;1,2,3=1..1", "1 1/3 1/3 1/3", "[1 1 1]"},
		{"a first panel that is never drawn", "5/2;0,1=0..1;2,3,4=1..1", "1/2 1/2 1/3 1/3 1/3", "[2 1 0 0 1 2]"},
	} {
		p := pool(c.text)
		even, ok := impl.EvenChances(p)
		expect(t, c.name+": EvenChances", fractionsText(even), ok, c.chances, true)
		tickets, ok := impl.EvenTickets(p)
		expect(t, c.name+": EvenTickets", fmt.Sprint(tickets), ok, c.tickets, true)
	}
}

// Prices bound the least chance, and some prove that it cannot be greater.
func TestPricesProveTheLeastChance(t *testing.T) {
	random := rand.New(rand.NewSource(71))
	for _, p := range slices.Concat(irregularPools(), lotteryPools(71, 150)) {
		least, _ := impl.LeastChance(p)
		prices := provingPrices(panelsIn(p), int(p.People))
		bound, ok := impl.BoundBy(p, prices)
		expect(t, fmt.Sprintf("BoundBy %q, %v", poolText(p), prices), bound, ok, least, true)
		for range 20 {
			prices := randomPrices(random, int(p.People))
			bound, ok := impl.BoundBy(p, prices)
			if order, valid := impl.CompareFractions(least, bound); !ok || !valid || order > 0 {
				t.Errorf("BoundBy %q, %v: got %v, %v, but LeastChance is %v", poolText(p), prices, bound, ok, least)
			}
		}
	}
}

// randomPrices returns valid prices, of which many are 0.
func randomPrices(random *rand.Rand, people int) []int64 {
	prices := make([]int64, people)
	most := []int64{1, 5, impl.MaxPrice}[random.Intn(3)]
	for i := range prices {
		prices[i] = max(random.Int63n(2*most+1)-most, 0)
	}
	prices[random.Intn(people)] = most
	return prices
}

func TestBoundBy(t *testing.T) {
	random := rand.New(rand.NewSource(72))
	for _, p := range lotteryPools(72, 400) {
		prices := randomPrices(random, int(p.People))
		all, greatest := int64(0), int64(0)
		for _, price := range prices {
			all += price
		}
		for _, panel := range panelsIn(p) {
			sum := int64(0)
			for _, person := range panel {
				sum += prices[person]
			}
			greatest = max(greatest, sum)
		}
		bound, ok := impl.BoundBy(p, prices)
		expectFractions(t, fmt.Sprintf("BoundBy %q, %v", poolText(p), prices), []impl.Fraction{bound}, ok, []*big.Rat{big.NewRat(greatest, all)})
	}
}

func TestBoundByCases(t *testing.T) {
	for _, c := range []struct {
		name, text string
		prices     []int64
		want       impl.Fraction
		ok         bool
	}{
		{"the document's example", "3/2;0=1..1", []int64{0, 1, 1}, frac(1, 2), true},
		{"equal prices", "4/2;0,1=1..1", []int64{1, 1, 1, 1}, frac(1, 2), true},
		{"the price of one person in no panel", "3/1;2=0..0", []int64{0, 0, 5}, frac(0, 1), true},
		{"the price of one person in every panel", "3/2;0=1..1", []int64{5, 0, 0}, frac(1, 1), true},
		{"the greatest prices", "7/3", slices.Repeat([]int64{impl.MaxPrice}, 7), frac(3, 7), true},
		{"one greatest price", "2/1;0=0..0", []int64{impl.MaxPrice, 1}, frac(1, impl.MaxPrice+1), true},
		{"a price beyond MaxPrice", "2/1", []int64{impl.MaxPrice + 1, 1}, impl.Fraction{}, false},
		{"all prices 0", "2/1", []int64{0, 0}, impl.Fraction{}, false},
		{"a negative price", "2/1", []int64{-1, 2}, impl.Fraction{}, false},
		{"too few prices", "2/1", []int64{1}, impl.Fraction{}, false},
		{"too many prices", "2/1", []int64{1, 1, 1}, impl.Fraction{}, false},
		{"no prices", "2/1", nil, impl.Fraction{}, false},
		{"extreme prices", "2/1", []int64{math.MaxInt64, math.MaxInt64}, impl.Fraction{}, false},
		{"the least price", "2/1", []int64{math.MinInt64, 1}, impl.Fraction{}, false},
		{"no panel", "3/2;0,1,2=3..3", []int64{1, 1, 1}, impl.Fraction{}, false},
		{"no pool", "2/3", []int64{1, 1}, impl.Fraction{}, false},
	} {
		got, ok := impl.BoundBy(pool(c.text), c.prices)
		expect(t, c.name, got, ok, c.want, c.ok)
	}
}

func TestNoLotteries(t *testing.T) {
	pools := invalidPools()
	for _, p := range samplePools(73, 500) {
		if len(panelsIn(p)) == 0 {
			pools["a pool without panels "+poolText(p)] = p
		}
	}
	for name, p := range pools {
		chances, ok := impl.EvenChances(p)
		expect(t, "EvenChances of "+name, len(chances), ok, 0, false)
		tickets, ok := impl.EvenTickets(p)
		expectList(t, "EvenTickets of "+name, tickets, ok, nil, false)
		least, ok := impl.LeastChance(p)
		expect(t, "LeastChance of "+name, least, ok, impl.Fraction{}, false)
		for people := range 8 {
			bound, ok := impl.BoundBy(p, slices.Repeat([]int64{1}, people))
			expect(t, "BoundBy of "+name, bound, ok, impl.Fraction{}, false)
		}
	}
}
