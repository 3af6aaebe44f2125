package tests

import (
	"fmt"
	"math"
	"math/rand"
	"slices"
	"strconv"
	"strings"

	"loop.example/g01095/impl"
)

// fullPool has as many people, quotas and members, and as great bounds, as can be.
const fullPool = "7/3;0,1,2,3,4,5,6=0..7;0,1,2=1..3;3,4,5,6=0..2;0,2,4,6=1..3;1,3,5=1..7;6=0..1"

// pool writes a pool as its text does, without the bounds of the document.
func pool(text string) impl.Pool {
	words := strings.Split(text, ";")
	var p impl.Pool
	scan(words[0], "%d/%d", &p.People, &p.Size)
	for _, word := range words[1:] {
		list, bounds, _ := strings.Cut(word, "=")
		q := impl.Quota{Members: numbers(list)}
		scan(bounds, "%d..%d", &q.Least, &q.Most)
		p.Quotas = append(p.Quotas, q)
	}
	return p
}

func scan(text, format string, into ...any) {
	if _, err := fmt.Sscanf(text, format, into...); err != nil {
		panic(err)
	}
}

// numbers reads numbers with commas between them.
func numbers(text string) []int64 {
	var list []int64
	for _, word := range strings.FieldsFunc(text, func(r rune) bool { return r == ',' }) {
		n, err := strconv.ParseInt(word, 10, 64)
		if err != nil {
			panic(err)
		}
		list = append(list, n)
	}
	return list
}

// poolText is the text of a pool, as the document describes it.
func poolText(p impl.Pool) string {
	text := fmt.Sprint(p.People, "/", p.Size)
	for _, q := range p.Quotas {
		text += ";"
		for i, person := range q.Members {
			if i > 0 {
				text += ","
			}
			text += fmt.Sprint(person)
		}
		text += fmt.Sprint("=", q.Least, "..", q.Most)
	}
	return text
}

func samePool(a, b impl.Pool) bool {
	return a.People == b.People && a.Size == b.Size && slices.EqualFunc(a.Quotas, b.Quotas, func(q, r impl.Quota) bool {
		return q.Least == r.Least && q.Most == r.Most && slices.Equal(q.Members, r.Members)
	})
}

func sameLists(a, b [][]int64) bool { return slices.EqualFunc(a, b, slices.Equal) }

// combinations returns all sets of so many people in lexicographic order.
func combinations(people, size int64) [][]int64 {
	var sets [][]int64
	for mask := range 1 << people {
		var set []int64
		for person := range people {
			if mask>>person&1 == 1 {
				set = append(set, person)
			}
		}
		if int64(len(set)) == size {
			sets = append(sets, set)
		}
	}
	slices.SortFunc(sets, slices.Compare)
	return sets
}

// missedBy counts how many people a set has too few or too many.
func missedBy(p impl.Pool, set []int64) int64 {
	missed := int64(0)
	for _, q := range p.Quotas {
		count := int64(0)
		for _, person := range set {
			if slices.Contains(q.Members, person) {
				count++
			}
		}
		for ; count < q.Least; count++ {
			missed++
		}
		for ; count > q.Most; count-- {
			missed++
		}
	}
	return missed
}

// panelsIn returns all panels of a valid pool.
func panelsIn(p impl.Pool) [][]int64 {
	return slices.DeleteFunc(combinations(p.People, p.Size), func(set []int64) bool { return missedBy(p, set) > 0 })
}

// quotasFor returns all quotas for so many people with bounds of at most so many.
func quotasFor(people, most int64) []impl.Quota {
	var quotas []impl.Quota
	for size := range people {
		for _, members := range combinations(people, size+1) {
			for b := range most + 1 {
				for a := range b + 1 {
					quotas = append(quotas, impl.Quota{Members: members, Least: a, Most: b})
				}
			}
		}
	}
	return quotas
}

// smallPools returns all pools of so many people with at most one quota, of which the bounds are at most so many.
func smallPools(people, most int64) []impl.Pool {
	var pools []impl.Pool
	for size := range people {
		pools = append(pools, impl.Pool{People: people, Size: size + 1})
		for _, q := range quotasFor(people, most) {
			pools = append(pools, impl.Pool{People: people, Size: size + 1, Quotas: []impl.Quota{q}})
		}
	}
	return pools
}

// randomPool returns a valid pool of so many people. Most of its quotas are met, closely, by some set.
func randomPool(random *rand.Rand, people int64) impl.Pool {
	p := impl.Pool{People: people, Size: 1 + random.Int63n(people)}
	met := randomSet(random, people, p.Size)
	for range random.Intn(impl.MaxQuotas + 1) {
		q := impl.Quota{Members: randomSet(random, people, 1+random.Int63n(people)), Most: random.Int63n(impl.MaxPool + 1)}
		q.Least = random.Int63n(q.Most + 1)
		if random.Intn(12) > 0 {
			count := int64(0)
			for _, person := range met {
				if slices.Contains(q.Members, person) {
					count++
				}
			}
			q.Least, q.Most = max(count-random.Int63n(2), 0), min(count+random.Int63n(2), impl.MaxPool)
		}
		p.Quotas = append(p.Quotas, q)
	}
	return p
}

func randomSet(random *rand.Rand, people, size int64) []int64 {
	var set []int64
	for _, person := range random.Perm(int(people))[:size] {
		set = append(set, int64(person))
	}
	slices.Sort(set)
	return set
}

// samplePools are small pools, pools without quotas, and random ones of all sizes.
func samplePools(seed int64, count int) []impl.Pool {
	random := rand.New(rand.NewSource(seed))
	pools := append(slices.Concat(smallPools(1, 2), smallPools(2, 3), smallPools(3, 2)), pool(fullPool))
	for people := range int64(impl.MaxPool) {
		for size := range people + 1 {
			pools = append(pools, impl.Pool{People: people + 1, Size: size + 1})
		}
	}
	for range count {
		pools = append(pools, randomPool(random, 2+random.Int63n(impl.MaxPool-1)))
	}
	return pools
}

// lotteryPools are the sample pools that have a panel.
func lotteryPools(seed int64, count int) []impl.Pool {
	return slices.DeleteFunc(samplePools(seed, count), func(p impl.Pool) bool { return len(panelsIn(p)) == 0 })
}

// invalidPools are pools that break one bound each.
func invalidPools() map[string]impl.Pool {
	list := map[string]impl.Pool{
		"no pool":             {},
		"no quotas' members":  {People: 2, Size: 1, Quotas: make([]impl.Quota, 1)},
		"far many people":     {People: math.MaxInt64, Size: 1},
		"far less people":     {People: math.MinInt64, Size: 1},
		"a far size":          {People: 7, Size: math.MaxInt64},
		"a far negative size": {People: 7, Size: math.MinInt64},
		"a far Least":         {People: 2, Size: 1, Quotas: []impl.Quota{{Members: []int64{0}, Least: math.MinInt64, Most: 1}}},
		"a far Most":          {People: 2, Size: 1, Quotas: []impl.Quota{{Members: []int64{0}, Least: 0, Most: math.MaxInt64}}},
		"far bounds":          {People: 2, Size: 1, Quotas: []impl.Quota{{Members: []int64{0}, Least: math.MaxInt64, Most: math.MaxInt64}}},
		"a far member":        {People: 2, Size: 1, Quotas: []impl.Quota{{Members: []int64{0, math.MaxInt64}, Least: 0, Most: 1}}},
		"a far first member":  {People: 2, Size: 1, Quotas: []impl.Quota{{Members: []int64{math.MinInt64, 0}, Least: 0, Most: 1}}},
	}
	for _, text := range []string{
		"0/0", "0/1", "1/0", "1/2", "7/8", "8/1", "8/8", "-1/-1", "2/-1", "3/4;0=0..1",
		"2/1;=0..1", "2/1;2=0..1", "2/1;-1=0..1", "2/1;0,0=0..1", "2/1;1,0=0..1", "3/1;0,2,1=0..1", "3/1;0,1,2,3=0..1", "2/1;0,1,1=0..1",
		"2/1;0=-1..1", "2/1;0=1..0", "2/1;0=2..1", "2/1;0=0..8", "2/1;0=8..8", "2/1;0=-2..-1", "2/1;0=7..6", "2/1;0=0..1;1=1..0", "2/1;0=0..1;=0..1",
		"7/3" + strings.Repeat(";0=0..1", impl.MaxQuotas+1),
	} {
		list[text] = pool(text)
	}
	return list
}
