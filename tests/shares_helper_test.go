package tests

import (
	"fmt"
	"math/big"
	"math/rand"
	"slices"
	"strings"
	"testing"

	"loop.example/g01095/impl"
)

// fullShares has as many members as can be, each of whom passes something to all others.
const fullShares = "1:1,2:2,3:3,4:1,5:5;0:1,2:1,3:1,4:1,5:1;0:4,1:2,3:2,4:2,5:2;0:2,1:2,2:2,4:2,5:2;0:3,1:3,2:3,3:2,5:1;0:8,1:1,2:1,3:1,4:1"

// shares writes a list as its text does, without the bounds of the document.
func shares(text string) [][]impl.Share {
	var list [][]impl.Share
	for one := range strings.SplitSeq(text, ";") {
		var own []impl.Share
		for _, word := range strings.FieldsFunc(one, func(r rune) bool { return r == ',' }) {
			var s impl.Share
			if _, err := fmt.Sscanf(word, "%d:%d", &s.To, &s.Part); err != nil {
				panic(err)
			}
			own = append(own, s)
		}
		list = append(list, own)
	}
	return list
}

// sharesText is the text of a list, as the document describes it.
func sharesText(list [][]impl.Share) string {
	text := ""
	for i, own := range list {
		if i > 0 {
			text += ";"
		}
		for k, s := range own {
			if k > 0 {
				text += ","
			}
			text += fmt.Sprint(s.To, ":", s.Part)
		}
	}
	return text
}

func sameShares(a, b [][]impl.Share) bool { return slices.EqualFunc(a, b, slices.Equal) }

// smallShares returns all valid lists of so many members in which all parts are among the given ones, 0 for no share.
func smallShares(members int, parts []int64) [][][]impl.Share {
	lists := [][][]impl.Share{nil}
	for i := range members {
		var longer [][][]impl.Share
		for _, list := range lists {
			for _, own := range ownShares(others(members, i), impl.WholeBallot, parts) {
				longer = append(longer, append(slices.Clone(list), own))
			}
		}
		lists = longer
	}
	return lists
}

// ownShares returns all shares to some of the members, with a sum of at most so many parts.
func ownShares(to []int64, most int64, parts []int64) [][]impl.Share {
	if len(to) == 0 {
		return [][]impl.Share{nil}
	}
	var all [][]impl.Share
	for _, part := range parts {
		if part > most {
			continue
		}
		var first []impl.Share
		if part > 0 {
			first = []impl.Share{{To: to[0], Part: part}}
		}
		for _, rest := range ownShares(to[1:], most-part, parts) {
			all = append(all, slices.Concat(first, rest))
		}
	}
	return all
}

// randomShares returns a valid list of so many members, of whom some keep nothing and some keep all.
func randomShares(random *rand.Rand, members int) [][]impl.Share {
	list := make([][]impl.Share, members)
	for i := range list {
		left := []int64{0, 1, 5, impl.WholeBallot, impl.WholeBallot}[random.Intn(5)]
		receivers := others(members, i)
		random.Shuffle(len(receivers), func(a, b int) { receivers[a], receivers[b] = receivers[b], receivers[a] })
		for k, to := range receivers {
			part := random.Int63n(left + 1)
			if k == len(receivers)-1 || random.Intn(3) == 0 {
				part = left
			}
			if left -= part; part > 0 {
				list[i] = append(list[i], impl.Share{To: to, Part: part})
			}
		}
		slices.SortFunc(list[i], func(a, b impl.Share) int { return int(a.To - b.To) })
	}
	return list
}

// sampleShares are all small lists, and random ones of all sizes.
func sampleShares(seed int64) [][][]impl.Share {
	random := rand.New(rand.NewSource(seed))
	lists := slices.Concat(smallShares(1, nil), smallShares(2, []int64{0, 1, 2, 3, 4, 5, 6, 7, 8, 9, 10, 11, 12}), smallShares(3, []int64{0, 5, 7, 12}))
	for range 600 {
		lists = append(lists, randomShares(random, 3+random.Intn(impl.MaxSharers-2)))
	}
	return append(lists, shares(fullShares), shares("1:12;2:12;3:12;4:12;5:12;0:11"), shares("1:12;2:12;3:12;4:12;5:12;0:12"))
}

// partOf returns the part of WholeBallot that a member passes to another one, and, for itself, the part that it keeps.
func partOf(list [][]impl.Share, from, to int) *big.Rat {
	part := int64(0)
	for _, s := range list[from] {
		if from == to {
			part -= s.Part
		} else if s.To == int64(to) {
			part = s.Part
		}
	}
	if from == to {
		part += impl.WholeBallot
	}
	return big.NewRat(part, impl.WholeBallot)
}

// reaches returns for each member and each other one whether something of the ballot of the one comes to the other.
func reaches(list [][]impl.Share) [][]bool {
	matrix := make([][]bool, len(list))
	for i := range list {
		matrix[i] = make([]bool, len(list))
		matrix[i][i] = true
		for _, s := range list[i] {
			matrix[i][s.To] = true
		}
	}
	for k := range list {
		for i := range list {
			for j := range list {
				matrix[i][j] = matrix[i][j] || matrix[i][k] && matrix[k][j]
			}
		}
	}
	return matrix
}

func trapped(list [][]impl.Share) []bool {
	result := make([]bool, len(list))
	for i, row := range reaches(list) {
		result[i] = true
		for j, reached := range row {
			if reached && partOf(list, j, j).Sign() > 0 {
				result[i] = false
			}
		}
	}
	return result
}

// expected solves, for all members that are not trapped, the equations by which the value of each one is its own and, by their
// parts, those of the members that it passes to; the others have the value 0. It looks at the first pass of a ballot only, while
// the document's equations look at what comes in.
func expected(list [][]impl.Share, own []*big.Rat) []*big.Rat {
	lost := trapped(list)
	rows := make([][]*big.Rat, len(list))
	for i := range rows {
		for j := range list {
			entry := new(big.Rat)
			if i == j {
				entry.SetInt64(1)
			} else if !lost[i] {
				entry.Neg(partOf(list, i, j))
			}
			rows[i] = append(rows[i], entry)
		}
		if lost[i] {
			rows[i] = append(rows[i], new(big.Rat))
		} else {
			rows[i] = append(rows[i], own[i])
		}
	}
	return solved(rows)
}

// solved returns the solution of linear equations by elimination with big numbers.
func solved(rows [][]*big.Rat) []*big.Rat {
	n := len(rows)
	for k := range n {
		pivot := k
		for rows[pivot][k].Sign() == 0 {
			pivot++
		}
		rows[k], rows[pivot] = rows[pivot], rows[k]
		for i := range n {
			factor := new(big.Rat).Quo(rows[i][k], rows[k][k])
			for j := range rows[i] {
				if i != k {
					rows[i][j] = new(big.Rat).Sub(rows[i][j], new(big.Rat).Mul(factor, rows[k][j]))
				}
			}
		}
	}
	solution := make([]*big.Rat, n)
	for i := range n {
		solution[i] = new(big.Rat).Quo(rows[i][n], rows[i][i])
	}
	return solution
}

// visits returns how much of the ballot of one member comes to another one, and back to it.
func visits(list [][]impl.Share) [][]*big.Rat {
	matrix := make([][]*big.Rat, len(list))
	for to := range list {
		own := make([]*big.Rat, len(list))
		for i := range own {
			own[i] = new(big.Rat)
		}
		own[to].SetInt64(1)
		for from, value := range expected(list, own) {
			matrix[from] = append(matrix[from], value)
		}
	}
	return matrix
}

func rational(n int64) *big.Rat { return new(big.Rat).SetInt64(n) }

// expectFractions compares fractions with exact values.
func expectFractions(t *testing.T, what string, got []impl.Fraction, ok bool, want []*big.Rat) {
	t.Helper()
	same := ok && len(got) == len(want)
	for i := 0; same && i < len(got); i++ {
		same = impl.ValidFraction(got[i]) && exact(got[i]).Cmp(want[i]) == 0
	}
	if !same {
		t.Errorf("%s: got %v, %v, want %v", what, got, ok, want)
	}
}

// invalidShares are lists that break one bound each.
func invalidShares() map[string][][]impl.Share {
	return map[string][][]impl.Share{
		"no members":                    nil,
		"7 members":                     make([][]impl.Share, impl.MaxSharers+1),
		"a share to itself":             shares("0:1;"),
		"a share of the last to itself": shares(";1:1"),
		"a share of one member":         shares("0:12"),
		"a share to no member":          shares("2:1;"),
		"a later share to no member":    shares(";0:1,2:1"),
		"a share to a negative number":  shares("-1:1;"),
		"two shares to one member":      shares("1:1,1:1;"),
		"decreasing numbers":            shares("2:6,1:6;;"),
		"the part 0":                    shares("1:0;"),
		"a negative part":               shares("1:-1;"),
		"a later negative part":         shares("1:12,2:-1;;"),
		"the part 13":                   shares("1:13;"),
		"the sum 13":                    shares("1:7,2:6;;"),
		"the sum 13 of many":            shares("1:4,2:4,3:4,4:1;;;;"),
		"the last list":                 shares(";;;;;0:13"),
		"a far number":                  {{{To: 1 << 62, Part: 1}}, nil},
		"the least number":              {{{To: -1 << 63, Part: 1}}, nil},
		"a far part":                    {{{To: 1, Part: 1<<63 - 1}}, nil},
		"the least part":                {{{To: 1, Part: -1 << 63}}, nil},
		"parts with a sum beyond int64": {{{To: 1, Part: 1<<63 - 1}, {To: 2, Part: 1<<63 - 1}, {To: 3, Part: 2}}, nil, nil, nil},
	}
}
