package tests

import (
	"iter"
	"maps"
	"math"
	"math/big"
	"slices"
	"testing"

	"loop.example/g01095/impl"
)

// frac saves the field names in tables.
func frac(num, den int64) impl.Fraction { return impl.Fraction{Num: num, Den: den} }

// exact returns the value of a fraction with a denominator other than 0.
func exact(f impl.Fraction) *big.Rat { return big.NewRat(f.Num, f.Den) }

// fitting returns the fraction with a value, if the document's bounds admit it.
func fitting(r *big.Rat) (impl.Fraction, bool) {
	most := big.NewInt(impl.MaxTerm)
	if r.Num().CmpAbs(most) > 0 || r.Denom().Cmp(most) > 0 {
		return impl.Fraction{}, false
	}
	return frac(r.Num().Int64(), r.Denom().Int64()), true
}

// expect compares the results of a function that may fail.
func expect[T comparable](t *testing.T, what string, got T, ok bool, want T, wantOK bool) {
	t.Helper()
	if got != want || ok != wantOK {
		t.Errorf("%s: got %v, %v, want %v, %v", what, got, ok, want, wantOK)
	}
}

// expectList is expect for lists.
func expectList[T comparable](t *testing.T, what string, got []T, ok bool, want []T, wantOK bool) {
	t.Helper()
	if !slices.Equal(got, want) || ok != wantOK {
		t.Errorf("%s: got %v, %v, want %v, %v", what, got, ok, want, wantOK)
	}
}

// extremes are numbers at, near and far beyond the bounds of chapter 1.
func extremes() []int64 {
	list := []int64{0, math.MinInt64, math.MaxInt64}
	for _, n := range []int64{1, 2, 3, 6, 7, 999999937, impl.MaxDecimal, impl.MaxTerm, impl.MaxTerm + 1, impl.MaxRaw, impl.MaxRaw + 1, math.MaxInt64} {
		list = append(list, n, -n)
	}
	return list
}

// spare returns a copy of a list with unused capacity, and the function that reports whether all of it is as before.
func spare[T comparable](list []T, beyond T) ([]T, func() bool) {
	whole := append(slices.Clone(list), beyond, beyond, beyond)
	before := slices.Clone(whole)
	return whole[:len(list)], func() bool { return slices.Equal(whole, before) }
}

// words returns all strings of at most so many bytes of an alphabet.
func words(alphabet string, most int) []string {
	list := []string{""}
	for first, length := 0, 1; length <= most; length++ {
		end := len(list)
		for ; first < end; first++ {
			for i := range len(alphabet) {
				list = append(list, list[first]+alphabet[i:i+1])
			}
		}
	}
	return list
}

// nearTexts goes through the texts that differ from a given one in few bytes: one of its bytes is left out, or has one of some
// others before it or in its place; only its beginning or its end is there; or its end stands before its beginning.
func nearTexts(text, others string) iter.Seq[string] {
	return func(yield func(near string) bool) {
		for i := range len(text) + 1 {
			head, tail := text[:i], text[i:]
			list := []string{head, tail, tail + head}
			for k := range len(others) {
				list = append(list, head+others[k:k+1]+tail)
				if tail != "" {
					list = append(list, head+others[k:k+1]+tail[1:])
				}
			}
			if tail != "" {
				list = append(list, head+tail[1:])
			}
			for _, near := range list {
				if !yield(near) {
					return
				}
			}
		}
	}
}

// checkRead checks that a text is read exactly if it is that of a value, which is then the result.
func checkRead[T any](t *testing.T, text string, isText bool, value func(text string) T, read func(s string) (T, bool), same func(a, b T) bool) {
	t.Helper()
	var want T
	if isText {
		want = value(text)
	}
	if got, ok := read(text); ok != isText || !same(got, want) {
		t.Errorf("%q: read %v, %v, want %v, %v", text, got, ok, want, isText)
	}
}

// checkReading checks that a text is read exactly if it is that of a value, which is then the result. It tries other texts, too.
func checkReading[T any](t *testing.T, read func(s string) (T, bool), values map[string]T, same func(a, b T) bool, others []string) {
	t.Helper()
	for _, text := range slices.AppendSeq(others, maps.Keys(values)) {
		want, wantOK := values[text]
		if got, ok := read(text); ok != wantOK || !same(got, want) {
			t.Errorf("%q: read %v, %v, want %v, %v", text, got, ok, want, wantOK)
		}
	}
}
