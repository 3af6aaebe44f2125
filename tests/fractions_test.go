package tests

import (
	"fmt"
	"math"
	"math/big"
	"math/rand"
	"slices"
	"testing"

	"loop.example/g01095/impl"
)

type operation struct {
	name string
	run  func(a, b impl.Fraction) (impl.Fraction, bool)
	want func(z, a, b *big.Rat) *big.Rat
}

func operations() []operation {
	return []operation{
		{"AddFractions", impl.AddFractions, (*big.Rat).Add},
		{"SubFractions", impl.SubFractions, (*big.Rat).Sub},
		{"MulFractions", impl.MulFractions, (*big.Rat).Mul},
		{"DivFractions", impl.DivFractions, (*big.Rat).Quo},
	}
}

// sampleFractions are valid fractions, extreme and small and arbitrary ones.
func sampleFractions() []impl.Fraction {
	set := map[impl.Fraction]bool{}
	dens := []int64{1, 2, 3, 6, 7, 12, 999999937, 999999998, impl.MaxDecimal, impl.MaxTerm}
	for _, num := range []int64{0, 1, 2, 3, 5, 12, 999999937, 999999998, impl.MaxDecimal, impl.MaxTerm} {
		for _, den := range dens {
			f, _ := fitting(big.NewRat(num, den))
			set[f], set[frac(-f.Num, f.Den)] = true, true
		}
	}
	random := rand.New(rand.NewSource(1))
	for range 30 {
		f, _ := fitting(big.NewRat(random.Int63n(2*impl.MaxTerm+1)-impl.MaxTerm, 1+random.Int63n(impl.MaxTerm)))
		set[f] = true
	}
	var list []impl.Fraction
	for f := range set {
		list = append(list, f)
	}
	slices.SortFunc(list, func(a, b impl.Fraction) int { return exact(a).Cmp(exact(b)) })
	return list
}

func invalidFractions() []impl.Fraction {
	return []impl.Fraction{
		{}, frac(0, 2), frac(0, -1), frac(0, impl.MaxTerm), frac(1, 0), frac(-1, 0), frac(1, -1), frac(-1, -2), frac(2, 4), frac(-2, 4), frac(6, 3),
		frac(impl.MaxTerm, 2), frac(impl.MaxTerm, impl.MaxTerm), frac(999999999, 3), frac(-impl.MaxTerm, 5),
		frac(impl.MaxTerm+1, 1), frac(-impl.MaxTerm-1, 1), frac(1, impl.MaxTerm+1), frac(-1, impl.MaxTerm+1), frac(impl.MaxTerm+1, impl.MaxTerm),
		frac(math.MinInt64, 1), frac(math.MaxInt64, 1), frac(1, math.MaxInt64), frac(1, math.MinInt64), frac(math.MinInt64, math.MinInt64), frac(math.MaxInt64, math.MaxInt64), frac(math.MinInt64, -1),
	}
}

func TestValidFraction(t *testing.T) {
	for _, f := range sampleFractions() {
		if !impl.ValidFraction(f) {
			t.Errorf("ValidFraction(%v) is false", f)
		}
	}
	for _, f := range invalidFractions() {
		if impl.ValidFraction(f) {
			t.Errorf("ValidFraction(%v) is true", f)
		}
	}
	for num := int64(-40); num <= 40; num++ {
		for den := int64(-3); den <= 40; den++ {
			f := frac(num, den)
			want := den >= 1 && exact(f).Num().Int64() == num && exact(f).Denom().Int64() == den
			if impl.ValidFraction(f) != want {
				t.Errorf("ValidFraction(%v) is %v", f, !want)
			}
		}
	}
}

func TestFractionOfExamples(t *testing.T) {
	for _, c := range []struct {
		num, den int64
		want     impl.Fraction
	}{
		{2, 4, frac(1, 2)}, {-2, 4, frac(-1, 2)}, {2, -4, frac(-1, 2)}, {-2, -4, frac(1, 2)},
		{0, 5, frac(0, 1)}, {0, -5, frac(0, 1)}, {0, -impl.MaxRaw, frac(0, 1)}, {7, 1, frac(7, 1)}, {7, -1, frac(-7, 1)}, {12, 18, frac(2, 3)},
		{impl.MaxTerm, 1, frac(impl.MaxTerm, 1)}, {-1, impl.MaxTerm, frac(-1, impl.MaxTerm)}, {1, -impl.MaxTerm, frac(-1, impl.MaxTerm)},
		{impl.MaxRaw, impl.MaxRaw, frac(1, 1)}, {impl.MaxRaw, -impl.MaxRaw, frac(-1, 1)}, {-impl.MaxRaw, impl.MaxTerm, frac(-impl.MaxTerm, 1)}, {impl.MaxTerm, impl.MaxRaw, frac(1, impl.MaxTerm)},
	} {
		got, ok := impl.FractionOf(c.num, c.den)
		expect(t, fmt.Sprint("FractionOf ", c.num, " ", c.den), got, ok, c.want, true)
	}
}

func TestFractionOfFails(t *testing.T) {
	for _, c := range [][2]int64{
		{1, 0}, {0, 0}, {-impl.MaxRaw, 0}, {impl.MaxTerm + 1, 1}, {-impl.MaxTerm - 1, 1}, {1, impl.MaxTerm + 1}, {1, -impl.MaxTerm - 1}, {impl.MaxRaw, 1}, {1, impl.MaxRaw}, {impl.MaxRaw, impl.MaxRaw - 1},
		{impl.MaxRaw + 1, 1}, {1, impl.MaxRaw + 1}, {impl.MaxRaw + 1, impl.MaxRaw + 1}, {-impl.MaxRaw - 1, impl.MaxRaw + 1}, {0, impl.MaxRaw + 1}, {0, -impl.MaxRaw - 1},
		{2 * impl.MaxRaw, impl.MaxRaw}, {-2 * impl.MaxRaw, impl.MaxRaw}, {impl.MaxRaw, 2 * impl.MaxRaw}, {impl.MaxRaw, -2 * impl.MaxRaw}, {math.MinInt64, math.MinInt64}, {math.MinInt64, -1}, {0, math.MinInt64}, {math.MaxInt64, math.MaxInt64},
	} {
		got, ok := impl.FractionOf(c[0], c[1])
		expect(t, fmt.Sprint("FractionOf ", c), got, ok, impl.Fraction{}, false)
	}
}

func TestFractionOfAgainstExactValues(t *testing.T) {
	numbers := append(extremes(), -12, 12, 18, 999999000000000000, 600000000000000000, -400000000000000000)
	for _, num := range numbers {
		for _, den := range numbers {
			var want impl.Fraction
			wantOK := false
			if max(num, den) <= impl.MaxRaw && min(num, den) >= -impl.MaxRaw && den != 0 {
				want, wantOK = fitting(big.NewRat(num, den))
			}
			got, ok := impl.FractionOf(num, den)
			expect(t, fmt.Sprint("FractionOf ", num, " ", den), got, ok, want, wantOK)
		}
	}
}

func TestOperationsExamples(t *testing.T) {
	most := frac(impl.MaxTerm, 1)
	for _, c := range []struct {
		name       string
		run        func(a, b impl.Fraction) (impl.Fraction, bool)
		a, b, want impl.Fraction
		wantOK     bool
	}{
		{"add", impl.AddFractions, frac(1, 2), frac(1, 3), frac(5, 6), true},
		{"add to 0", impl.AddFractions, frac(1, 2), frac(-1, 2), frac(0, 1), true},
		{"add to MaxTerm", impl.AddFractions, frac(impl.MaxTerm-1, 1), frac(1, 1), most, true},
		{"add beyond MaxTerm", impl.AddFractions, most, frac(1, impl.MaxTerm), frac(0, 0), false},
		{"add with great terms on the way", impl.AddFractions, frac(1, impl.MaxTerm), frac(999999999, impl.MaxTerm), frac(1, 1), true},
		{"add to a great divisor", impl.AddFractions, frac(1, 31627), frac(1, 31622), frac(0, 0), false},
		{"add sums above MaxRaw", impl.AddFractions, frac(999999999, impl.MaxTerm), frac(999999999, impl.MaxTerm), frac(999999999, 500000000), true},
		{"sub", impl.SubFractions, frac(1, 2), frac(1, 3), frac(1, 6), true},
		{"sub itself", impl.SubFractions, most, most, frac(0, 1), true},
		{"sub beyond", impl.SubFractions, frac(-impl.MaxTerm, 1), frac(1, 1), frac(0, 0), false},
		{"mul", impl.MulFractions, frac(2, 3), frac(3, 4), frac(1, 2), true},
		{"mul by 0", impl.MulFractions, frac(-2, 3), frac(0, 1), frac(0, 1), true},
		{"mul great terms", impl.MulFractions, most, frac(-1, impl.MaxTerm), frac(-1, 1), true},
		{"mul beyond", impl.MulFractions, most, frac(2, 1), frac(0, 0), false},
		{"mul too small", impl.MulFractions, frac(1, impl.MaxTerm), frac(1, 2), frac(0, 0), false},
		{"div", impl.DivFractions, frac(1, 2), frac(-1, 4), frac(-2, 1), true},
		{"div 0", impl.DivFractions, frac(0, 1), frac(-5, 4), frac(0, 1), true},
		{"div by 0", impl.DivFractions, frac(1, 2), frac(0, 1), frac(0, 0), false},
		{"div 0 by 0", impl.DivFractions, frac(0, 1), frac(0, 1), frac(0, 0), false},
		{"div great terms", impl.DivFractions, most, frac(-impl.MaxTerm, 1), frac(-1, 1), true},
		{"div beyond", impl.DivFractions, most, frac(1, 2), frac(0, 0), false},
	} {
		got, ok := c.run(c.a, c.b)
		expect(t, c.name, got, ok, c.want, c.wantOK)
	}
}

func TestOperationsAgainstExactValues(t *testing.T) {
	list := sampleFractions()
	for _, o := range operations() {
		for _, a := range list {
			for _, b := range list {
				var want impl.Fraction
				wantOK := false
				if o.name != "DivFractions" || b.Num != 0 {
					want, wantOK = fitting(o.want(new(big.Rat), exact(a), exact(b)))
				}
				got, ok := o.run(a, b)
				expect(t, fmt.Sprint(o.name, " ", a, " ", b), got, ok, want, wantOK)
			}
		}
	}
}

// Whatever is added can be subtracted again, and so on, whenever the first result exists.
func TestOperationsLeadBack(t *testing.T) {
	list := sampleFractions()
	backward := []int{1, 0, 3, 2}
	for i, o := range operations() {
		back := operations()[backward[i]]
		for _, a := range list {
			for _, b := range list {
				c, ok := o.run(a, b)
				if !ok || b.Num == 0 && i >= 2 {
					continue
				}
				got, ok := back.run(c, b)
				expect(t, fmt.Sprint(back.name, " after ", o.name, " ", a, " ", b), got, ok, a, true)
			}
		}
	}
}

func TestInvalidFractionsAreRefused(t *testing.T) {
	half := frac(1, 2)
	for _, f := range invalidFractions() {
		for _, o := range operations() {
			for _, pair := range [][2]impl.Fraction{{f, half}, {half, f}, {f, f}, {f, frac(0, 1)}, {frac(0, 1), f}} {
				got, ok := o.run(pair[0], pair[1])
				expect(t, fmt.Sprint(o.name, " ", pair), got, ok, impl.Fraction{}, false)
				order, ok := impl.CompareFractions(pair[0], pair[1])
				expect(t, fmt.Sprint("CompareFractions ", pair), order, ok, 0, false)
			}
		}
		low, ok := impl.FloorOf(f)
		expect(t, fmt.Sprint("FloorOf ", f), low, ok, 0, false)
		text, ok := impl.FractionText(f)
		expect(t, fmt.Sprint("FractionText ", f), text, ok, "", false)
		for _, sum := range [][]impl.Fraction{{f}, {half, f}, {f, half}} {
			got, ok := impl.SumFractions(sum)
			expect(t, fmt.Sprint("SumFractions ", sum), got, ok, impl.Fraction{}, false)
		}
	}
}

func TestCompareFractions(t *testing.T) {
	list := sampleFractions()
	for i, a := range list {
		for k, b := range list {
			want := int64(exact(a).Cmp(exact(b)))
			got, ok := impl.CompareFractions(a, b)
			expect(t, fmt.Sprint("CompareFractions ", a, " ", b), got, ok, want, true)
			if (got == 0) != (i == k) {
				t.Errorf("CompareFractions %v %v: %d", a, b, got)
			}
		}
	}
	near, ok := impl.CompareFractions(frac(999999998, 999999999), frac(999999999, impl.MaxTerm))
	expect(t, "CompareFractions of neighbours", near, ok, -1, true)
}

func TestFloorOf(t *testing.T) {
	for f, want := range map[impl.Fraction]int64{
		frac(-7, 2): -4, frac(7, 2): 3, frac(0, 1): 0, frac(-1, 1): -1, frac(5, 1): 5, frac(-1, impl.MaxTerm): -1, frac(1, impl.MaxTerm): 0,
		frac(impl.MaxTerm, 1): impl.MaxTerm, frac(-impl.MaxTerm, 1): -impl.MaxTerm, frac(-impl.MaxTerm, 999999999): -2, frac(impl.MaxTerm, 999999999): 1, frac(-999999999, 2): -500000000,
	} {
		got, ok := impl.FloorOf(f)
		expect(t, fmt.Sprint("FloorOf ", f), got, ok, want, true)
	}
	for _, f := range sampleFractions() {
		got, ok := impl.FloorOf(f)
		r := exact(f)
		want := new(big.Int).Div(r.Num(), r.Denom()).Int64()
		expect(t, fmt.Sprint("FloorOf ", f), got, ok, want, true)
	}
}

func TestSumFractions(t *testing.T) {
	ones := slices.Repeat([]impl.Fraction{frac(1, 20)}, impl.MaxParts)
	most, least := frac(impl.MaxTerm, 1), frac(-impl.MaxTerm, 1)
	for _, c := range []struct {
		name   string
		list   []impl.Fraction
		want   impl.Fraction
		wantOK bool
	}{
		{"nil", nil, frac(0, 1), true},
		{"none", []impl.Fraction{}, frac(0, 1), true},
		{"one", []impl.Fraction{frac(-3, 7)}, frac(-3, 7), true},
		{"some", []impl.Fraction{frac(1, 2), frac(1, 3), frac(1, 6)}, frac(1, 1), true},
		{"MaxParts", ones, frac(1, 1), true},
		{"MaxParts and one more", append(slices.Clone(ones), frac(0, 1)), frac(0, 0), false},
		{"at the bound on the way", []impl.Fraction{most, least, frac(1, 2)}, frac(1, 2), true},
		{"beyond the bound on the way", []impl.Fraction{most, frac(1, 1), frac(-1, 1)}, frac(0, 0), false},
		{"the same in another order", []impl.Fraction{most, frac(-1, 1), frac(1, 1)}, most, true},
		{"below the bound on the way", []impl.Fraction{least, frac(-1, 1), most}, frac(0, 0), false},
		{"a great divisor on the way", []impl.Fraction{frac(1, impl.MaxTerm), frac(1, 3), frac(-1, 3)}, frac(0, 0), false},
		{"the same without it", []impl.Fraction{frac(1, 3), frac(-1, 3), frac(1, impl.MaxTerm)}, frac(1, impl.MaxTerm), true},
		{"beyond at the end", []impl.Fraction{most, frac(1, 2)}, frac(0, 0), false},
	} {
		got, ok := impl.SumFractions(c.list)
		expect(t, "SumFractions: "+c.name, got, ok, c.want, c.wantOK)
	}
}

func TestFractionTexts(t *testing.T) {
	for f, want := range map[impl.Fraction]string{
		frac(0, 1): "0", frac(3, 1): "3", frac(-3, 1): "-3", frac(1, 2): "1/2", frac(-1, 2): "-1/2",
		frac(impl.MaxTerm, 1): "1000000000", frac(-impl.MaxTerm, 999999999): "-1000000000/999999999", frac(1, impl.MaxTerm): "1/1000000000",
	} {
		got, ok := impl.FractionText(f)
		expect(t, fmt.Sprint("FractionText ", f), got, ok, want, true)
	}
	for _, f := range sampleFractions() {
		text, ok := impl.FractionText(f)
		if !ok {
			t.Errorf("FractionText %v fails", f)
		}
		back, ok := impl.ReadFraction(text)
		expect(t, "ReadFraction of "+text, back, ok, f, true)
	}
}

func TestReadFractionInvalid(t *testing.T) {
	for _, s := range []string{
		"", "/", "1/", "/2", "-/2", "1/2/3", "1//2", "2/4", "0/2", "3/1", "0/1", "-0", "-0/1", "1/0", "0/0", "1/-2", "-1/-2", "+1/2", "1/+2", "01/2", "1/02", "1 /2", "1/ 2", " 1/2", "1/2 ", "1/2\n", "1:2", "0.5", "1e9", "1_0", "½",
		"1000000001", "-1000000001", "1000000001/2", "1/1000000001", "-1/1000000001", "9223372036854775808", "1/9223372036854775809", "1/18446744073709551618",
	} {
		got, ok := impl.ReadFraction(s)
		expect(t, fmt.Sprintf("ReadFraction of %q", s), got, ok, impl.Fraction{}, false)
	}
}

// A text is read exactly if it is that of a valid fraction, which is then the result.
func TestReadFractionOfAllShortTexts(t *testing.T) {
	fractions := map[string]impl.Fraction{}
	for num := int64(-9999); num <= 99999; num++ {
		fractions[big.NewInt(num).String()] = frac(num, 1)
	}
	for num := int64(-99); num <= 999; num++ {
		for den := int64(2); den <= 999; den++ {
			if r := big.NewRat(num, den); r.Denom().Int64() == den {
				fractions[r.String()] = frac(num, den)
			}
		}
	}
	for _, s := range words("0126/-+", 5) {
		want, wantOK := fractions[s]
		got, ok := impl.ReadFraction(s)
		expect(t, fmt.Sprintf("ReadFraction of %q", s), got, ok, want, wantOK)
	}
}
