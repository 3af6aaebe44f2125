package tests

import (
	"fmt"
	"math/rand"
	"regexp"
	"slices"
	"strings"
	"testing"

	"loop.example/g01095/impl"
)

// nearBytes has bytes that the texts of shares and pools have, and others.
const nearBytes = "012345678:;,/=. -+\n\x00\xff"

var sharesWord = regexp.MustCompile(`\A(?:[0-5]:(?:1[0-2]|[1-9])(?:,[0-5]:(?:1[0-2]|[1-9]))*)?\z`)

// isTextOfShares looks at the words of a text only, in which all members have one digit.
func isTextOfShares(text string) bool {
	words := strings.Split(text, ";")
	for member, word := range words {
		if len(words) > impl.MaxSharers || !sharesWord.MatchString(word) {
			return false
		}
		before, sum := int64(-1), int64(0)
		for _, share := range strings.FieldsFunc(word, func(r rune) bool { return r == ',' }) {
			to := integer(share[:1])
			if to <= before || to == int64(member) || to >= int64(len(words)) {
				return false
			}
			before = to
			sum += integer(share[2:])
		}
		if sum > impl.WholeBallot {
			return false
		}
	}
	return true
}

func checkReadShares(t *testing.T, text string) {
	t.Helper()
	checkRead(t, text, isTextOfShares(text), shares, impl.ReadShares, sameShares)
}

var poolWords = regexp.MustCompile(`\A[1-7]/[1-7](?:;[0-6](?:,[0-6])*=[0-7]\.\.[0-7])*\z`)

// isTextOfAPool looks at the words of a text only, in which all numbers have one digit.
func isTextOfAPool(text string) bool {
	words := strings.Split(text, ";")
	if !poolWords.MatchString(text) || len(words) > 1+impl.MaxQuotas || text[2] > text[0] {
		return false
	}
	for _, word := range words[1:] {
		list, bounds, _ := strings.Cut(word, "=")
		members := strings.Split(list, ",")
		isIncreasing := slices.IsSorted(members) && len(slices.Compact(slices.Clone(members))) == len(members)
		if !isIncreasing || members[len(members)-1] >= text[:1] || bounds[0] > bounds[3] {
			return false
		}
	}
	return true
}

func checkReadPool(t *testing.T, text string) {
	t.Helper()
	checkRead(t, text, isTextOfAPool(text), pool, impl.ReadPool, samePool)
}

// Texts are nearly those of shares if one byte is left out, put in or another one.
func TestReadSharesOfNearTexts(t *testing.T) {
	random := rand.New(rand.NewSource(160))
	lists := slices.Concat(smallShares(1, nil), smallShares(2, []int64{0, 1, 9, 10, 12}), smallShares(3, []int64{0, 4, 12}), [][][]impl.Share{shares(fullShares), make([][]impl.Share, impl.MaxSharers)})
	for range 40 {
		lists = append(lists, randomShares(random, 2+random.Intn(impl.MaxSharers-1)))
	}
	for _, list := range lists {
		text := sharesText(list)
		if !isTextOfShares(text) {
			t.Errorf("%q is not taken for the text of shares", text)
		}
		for near := range nearTexts(text, nearBytes) {
			checkReadShares(t, near)
		}
	}
	for _, list := range invalidShares() {
		if len(list) > 0 {
			checkReadShares(t, sharesText(list))
		}
	}
}

// Texts are nearly those of pools if one byte is left out, put in or another one.
func TestReadPoolOfNearTexts(t *testing.T) {
	random := rand.New(rand.NewSource(161))
	pools := slices.Concat(smallPools(1, 1), smallPools(2, 1), []impl.Pool{pool("4/2;0,1=1..1"), pool(fullPool), pool("7/7;6=7..7"), pool("7/1" + strings.Repeat(";0=0..0", impl.MaxQuotas))})
	for range 40 {
		pools = append(pools, randomPool(random, 2+random.Int63n(impl.MaxPool-1)))
	}
	for _, p := range pools {
		text := poolText(p)
		if !isTextOfAPool(text) {
			t.Errorf("%q is not taken for the text of a pool", text)
		}
		for near := range nearTexts(text, nearBytes) {
			checkReadPool(t, near)
		}
	}
	for _, p := range invalidPools() {
		checkReadPool(t, poolText(p))
	}
}

// Whatever is read has the text that it is read from.
func TestTextsThatAreReadAreWrittenBack(t *testing.T) {
	random := rand.New(rand.NewSource(162))
	for range 3000 {
		checkBack(t, random, frameText(randomFrame(random)), impl.ReadFrame, impl.FrameText)
		checkBack(t, random, sharesText(randomShares(random, 1+random.Intn(impl.MaxSharers))), impl.ReadShares, impl.SharesText)
		checkBack(t, random, poolText(randomPool(random, 1+random.Int63n(impl.MaxPool))), impl.ReadPool, impl.PoolText)
		checkBack(t, random, profileText(randomProfile(random)), impl.ReadProfile, impl.ProfileText)
	}
}

// checkBack checks that a text is read, and that it and texts in which parts of it have changed their places are the texts of what
// is read of them, if anything is.
func checkBack[T any](t *testing.T, random *rand.Rand, text string, read func(s string) (T, bool), write func(value T) (string, bool)) {
	t.Helper()
	if _, ok := read(text); !ok {
		t.Errorf("%q is not read", text)
	}
	for range 4 {
		if value, ok := read(text); ok {
			back, ok := write(value)
			expect(t, fmt.Sprintf("the text of what is read of %q", text), back, ok, text, true)
		}
		cuts := []int{random.Intn(len(text) + 1), random.Intn(len(text) + 1), random.Intn(len(text) + 1)}
		slices.Sort(cuts)
		text = text[:cuts[0]] + text[cuts[1]:cuts[2]] + text[cuts[0]:cuts[1]] + text[cuts[2]:]
	}
}
