package tests

import (
	"fmt"
	"slices"
	"strings"
	"testing"

	"loop.example/g01095/impl"
)

// twice runs a function two times and reports an error if it panics or its results differ.
func twice(t *testing.T, what string, run func() string) {
	t.Helper()
	defer func() {
		if r := recover(); r != nil {
			t.Errorf("%s panics: %v", what, r)
		}
	}()
	if first, second := run(), run(); first != second {
		t.Errorf("%s: first %s, then %s", what, first, second)
	}
}

func TestChapter1ReturnsForAllNumbers(t *testing.T) {
	for _, m := range extremes() {
		twice(t, fmt.Sprint("Decimal ", m), func() string { return impl.Decimal(m) })
		for _, n := range extremes() {
			f := frac(m, n)
			twice(t, fmt.Sprint("functions of one fraction ", f), func() string {
				a, one := impl.FractionOf(m, n)
				b, two := impl.FloorOf(f)
				c, three := impl.FractionText(f)
				d, four := impl.SumFractions([]impl.Fraction{f, f})
				e, five := impl.ShareOut(m, []int64{n, m, 1})
				return fmt.Sprint(impl.ValidFraction(f), a, one, b, two, c, three, d, four, e, five)
			})
			for _, g := range []impl.Fraction{f, frac(n, m), frac(1, 2), {}} {
				twice(t, fmt.Sprint("functions of two fractions ", f, g), func() string {
					var all []any
					for _, o := range operations() {
						c, ok := o.run(f, g)
						all = append(all, c, ok)
					}
					c, ok := impl.CompareFractions(f, g)
					return fmt.Sprint(append(all, c, ok)...)
				})
			}
		}
	}
}

func TestChapter1ReturnsForAllTexts(t *testing.T) {
	long := strings.Repeat("1", 100000)
	for _, s := range append(words("1-/+\x00\xff", 4), long, "-"+long, long+"/"+long, strings.Repeat("/", 100000), strings.Repeat("a", 100000)) {
		twice(t, fmt.Sprintf("functions of the text %.20q", s), func() string {
			a, one := impl.ReadDecimal(s)
			b, two := impl.ReadFraction(s)
			return fmt.Sprint(impl.IsName(s), a, one, b, two)
		})
	}
}

func TestChapter1ModifiesNoArgument(t *testing.T) {
	for _, list := range [][]impl.Fraction{nil, {frac(1, 2)}, {frac(1, 2), frac(1, 3), frac(-1, 6)}, {frac(2, 4), {}}, {frac(impl.MaxTerm, 1), frac(1, 1)}} {
		given, unchanged := spare(list, frac(7, 8))
		impl.SumFractions(given)
		if !unchanged() {
			t.Errorf("SumFractions changes %v", list)
		}
	}
	for _, weights := range [][]int64{nil, {1}, {1, 2, 3}, {3, 0, 5, 5}, {0, 0}, {-1, 2}, slices.Repeat([]int64{7}, 20), slices.Repeat([]int64{7}, 21)} {
		given, unchanged := spare(weights, 99)
		impl.ShareOut(10, given)
		if !unchanged() {
			t.Errorf("ShareOut changes %v", weights)
		}
	}
}

func TestChapter1ReturnsNewMemory(t *testing.T) {
	for _, weights := range [][]int64{{4}, {1, 2}, {1, 1, 1}, slices.Repeat([]int64{7}, 20)} {
		given, unchanged := spare(weights, 99)
		first, _ := impl.ShareOut(100, given)
		want := slices.Clone(first)
		clear(first[:cap(first)])
		if !unchanged() {
			t.Errorf("the result of ShareOut shares memory with the weights %v", weights)
		}
		second, ok := impl.ShareOut(100, given)
		expectList(t, "ShareOut after its result was changed", second, ok, want, true)
		third, _ := impl.ShareOut(100, given)
		clear(third[:cap(third)])
		expectList(t, "the result of an earlier ShareOut", second, true, want, true)
	}
}
