package tests

import (
	"math"
	"strconv"
	"strings"
	"testing"

	"loop.example/g01095/impl"
)

func TestNames(t *testing.T) {
	for _, s := range []string{"a", "z", "park", "abcdefghij", "zzzzzzzzzz"} {
		if !impl.IsName(s) {
			t.Errorf("IsName(%q) is false", s)
		}
	}
	for _, s := range []string{"", "abcdefghijk", strings.Repeat("a", 1000), "A", "parK", "a1", "a b", " a", "a ", "a\n", "\x00", "a`", "a{", "`", "{", "é", "añ", "\xff"} {
		if impl.IsName(s) {
			t.Errorf("IsName(%q) is true", s)
		}
	}
	for b := range 256 {
		want := b >= 'a' && b <= 'z'
		for _, s := range []string{string([]byte{byte(b)}), string([]byte{'q', byte(b)}), string([]byte{byte(b), 'q'})} {
			if impl.IsName(s) != want {
				t.Errorf("IsName(%q) is %v", s, !want)
			}
		}
	}
}

func TestDecimal(t *testing.T) {
	for n, want := range map[int64]string{
		0: "0", 7: "7", -7: "-7", 10: "10", -100: "-100", 1234567890: "1234567890",
		impl.MaxRaw:    "1000000000000000000",
		math.MaxInt64:  "9223372036854775807",
		math.MinInt64:  "-9223372036854775808",
		-impl.MaxTerm:  "-1000000000",
		-1234567890123: "-1234567890123",
	} {
		if s := impl.Decimal(n); s != want {
			t.Errorf("Decimal(%d): got %q, want %q", n, s, want)
		}
	}
}

func TestReadDecimalLimits(t *testing.T) {
	for _, n := range []int64{0, 1, -1, 9, 10, -10, 42, 999999998, 999999999, -999999998, -999999999} {
		got, ok := impl.ReadDecimal(impl.Decimal(n))
		expect(t, "ReadDecimal of "+impl.Decimal(n), got, ok, n, true)
	}
	for _, n := range []int64{1000000000, -1000000000, 1000000001, math.MaxInt64, math.MinInt64, impl.MaxRaw} {
		got, ok := impl.ReadDecimal(impl.Decimal(n))
		expect(t, "ReadDecimal of "+impl.Decimal(n), got, ok, 0, false)
	}
}

func TestReadDecimalInvalid(t *testing.T) {
	for _, s := range []string{
		"", "-", "+", "-0", "+0", "+1", "--1", "-+1", "00", "007", "-01", "1.", "1.0", "1e3", "0x1", "0b1", "0o7", "1_000", "1,000",
		" 1", "1 ", "1\n", "\n1", "1\x00", "a", "1a", "a1", "²", "१", "９", "−1",
		"9223372036854775808", "-9223372036854775809", "18446744073709551617", strings.Repeat("0", 100), strings.Repeat("9", 1000),
	} {
		got, ok := impl.ReadDecimal(s)
		expect(t, "ReadDecimal of "+strconv.Quote(s), got, ok, 0, false)
	}
}

// A text is read exactly if it is the Decimal of a number, which is then the result.
func TestReadDecimalOfAllShortTexts(t *testing.T) {
	numbers := map[string]int64{}
	for n := int64(-999); n <= 9999; n++ {
		numbers[strconv.FormatInt(n, 10)] = n
	}
	for _, s := range words("019-+_ .x", 4) {
		want, wantOK := numbers[s]
		got, ok := impl.ReadDecimal(s)
		expect(t, "ReadDecimal of "+strconv.Quote(s), got, ok, want, wantOK)
	}
}
