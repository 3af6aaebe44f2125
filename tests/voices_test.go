package tests

import (
	"fmt"
	"math/rand"
	"strconv"
	"strings"
	"testing"

	"loop.example/g01095/impl"
)

// longest has as many members as can be, each of whom trusts as many as can be.
const longest = "-1,2,3,4 -2,3,4,5 -3,4,5,6 -4,5,6,7 -5,6,7,8 -6,7,8,9 -7,8,9,10 -8,9,10,11 -9,10,11,0 -10,11,0,1 -11,0,1,2 +0,1,2,3"

func TestValidVoices(t *testing.T) {
	for _, text := range []string{
		"+", "-", "-1 -0", "+1 +0", "-1,2 -0 +", "+1,2,3,4 - - - -", "-4,3,2,1 + + + +", longest,
		strings.TrimSpace(strings.Repeat("- ", impl.MaxMembers)),
	} {
		if !impl.ValidVoices(voices(text)) {
			t.Errorf("ValidVoices of %q is false", text)
		}
	}
	for name, list := range invalidVoices() {
		if impl.ValidVoices(list) {
			t.Errorf("ValidVoices is true for %s: %v", name, list)
		}
	}
}

func TestVoicesText(t *testing.T) {
	random := rand.New(rand.NewSource(21))
	lists := [][]impl.Voice{voices(longest), voices("-1,2 -0 +"), {{Trust: []int64{}}}}
	for range 500 {
		lists = append(lists, randomVoices(random, 1+random.Intn(impl.MaxMembers), 1+random.Intn(3)))
	}
	for _, list := range lists {
		text, ok := impl.VoicesText(list)
		expect(t, fmt.Sprint("VoicesText of ", list), text, ok, textOf(list), true)
		back, ok := impl.ReadVoices(text)
		if !ok || !sameVoices(back, list) {
			t.Errorf("ReadVoices of %q: got %v, %v, want %v", text, back, ok, list)
		}
	}
}

func TestReadVoicesInvalid(t *testing.T) {
	for _, s := range []string{
		"", " ", "1", "x", "+ ", " +", "+  +", "+\t+", "+\n", "+,", "-,1 +", "-1, +", "-1,,2 + +", "-01 +", "-+1 +", "--1 +", "-1;2 + +", "-1.0 +",
		"-1 2 +", "-1, 2 + +", "-0", "-1", "-1,1 +", "-2 +", "+0", "-1,2,3,4,5 + + + + +", "±", "−1 +", "-1 +\x00", "+-", "-999999999999999999999 +", "-4294967297 +",
		strings.TrimSpace(strings.Repeat("+ ", impl.MaxMembers+1)), strings.Repeat("+ ", impl.MaxMembers), longest + " +",
	} {
		list, ok := impl.ReadVoices(s)
		if ok || list != nil {
			t.Errorf("ReadVoices of %q: got %v, %v", s, list, ok)
		}
	}
}

func TestReadVoicesOfAllShortTexts(t *testing.T) {
	lists := map[string][]impl.Voice{}
	for members := 1; members <= 3; members++ {
		for _, list := range smallVoices(members) {
			lists[textOf(list)] = list
		}
	}
	checkReading(t, impl.ReadVoices, lists, sameVoices, words("+-012, ", 5))
}

func TestSilenceMember(t *testing.T) {
	for _, c := range []struct {
		text   string
		member int64
		want   string
	}{
		{"-1,2 -0 +", 2, "-1,2 -0 -"}, {"-1,2 -0 +", 0, "- -0 +"}, {"+1 +0", 1, "+1 -"}, {"+", 0, "-"}, {"-", 0, "-"}, {longest, 11, strings.Replace(longest, "+0,1,2,3", "-", 1)},
	} {
		got, ok := impl.SilenceMember(voices(c.text), c.member)
		if !ok || textOf(got) != c.want {
			t.Errorf("SilenceMember of %q, %d: got %q, %v, want %q", c.text, c.member, textOf(got), ok, c.want)
		}
	}
}

// failures reports the functions of a list and a member that do not fail with zero values, and, if the list is invalid, those of a list alone.
func failures(t *testing.T, what string, list []impl.Voice, rule, member, limit int64) {
	t.Helper()
	path := []int64{member}
	if impl.IsPath(list, path) {
		t.Errorf("%s: IsPath is true", what)
	}
	one, ok := impl.RanksOf(list, path)
	expectList(t, what+": RanksOf", one, ok, nil, false)
	many, ok := impl.PathsOf(list, member)
	expectLists(t, what+": PathsOf", many, ok, nil, false)
	number, ok := impl.ComparePaths(list, rule, path, path)
	expect(t, what+": ComparePaths", number, ok, 0, false)
	one, ok = impl.PathOf(list, rule, member)
	expectList(t, what+": PathOf", one, ok, nil, false)
	one, ok = impl.PassingThrough(list, rule, member)
	expectList(t, what+": PassingThrough", one, ok, nil, false)
	silent, ok := impl.SilenceMember(list, member)
	expect(t, what+": SilenceMember", len(silent), ok, 0, false)
	if impl.ValidVoices(list) {
		return
	}
	one, ok = impl.SettleVoices(list, rule)
	expectList(t, what+": SettleVoices", one, ok, nil, false)
	one, ok = impl.WeightsOf(list, rule)
	expectList(t, what+": WeightsOf", one, ok, nil, false)
	one, ok = impl.LostMembers(list)
	expectList(t, what+": LostMembers", one, ok, nil, false)
	many, ok = impl.FirstCircles(list)
	expectLists(t, what+": FirstCircles", many, ok, nil, false)
	one, ok = impl.CappedSettlement(list, limit)
	expectList(t, what+": CappedSettlement", one, ok, nil, false)
	one, ok = impl.CapProof(list, limit)
	expectList(t, what+": CapProof", one, ok, nil, false)
	text, ok := impl.VoicesText(list)
	expect(t, what+": VoicesText", text, ok, "", false)
}

func TestVoicesInvalid(t *testing.T) {
	for name, list := range invalidVoices() {
		failures(t, name, list, impl.RuleBreadth, 0, 1)
	}
}

func TestNoMember(t *testing.T) {
	for _, text := range []string{"+", "-1 +", "-1,2 -0 +", longest} {
		list := voices(text)
		for _, member := range []int64{-1, int64(len(list)), -1 << 63, 1<<63 - 1, 1 << 32} {
			failures(t, fmt.Sprint("member ", member, " of ", text), list, impl.RuleSum, member, 1)
		}
	}
}

func TestNoRule(t *testing.T) {
	list := voices("-1 +")
	for _, rule := range []int64{-1, 3, -1 << 63, 1<<63 - 1, 1 << 32} {
		what := "rule " + strconv.FormatInt(rule, 10)
		number, ok := impl.ComparePaths(list, rule, []int64{0, 1}, []int64{0, 1})
		expect(t, what+": ComparePaths", number, ok, 0, false)
		one, ok := impl.PathOf(list, rule, 0)
		expectList(t, what+": PathOf", one, ok, nil, false)
		one, ok = impl.SettleVoices(list, rule)
		expectList(t, what+": SettleVoices", one, ok, nil, false)
		one, ok = impl.WeightsOf(list, rule)
		expectList(t, what+": WeightsOf", one, ok, nil, false)
		one, ok = impl.PassingThrough(list, rule, 0)
		expectList(t, what+": PassingThrough", one, ok, nil, false)
	}
}

func TestNoLimit(t *testing.T) {
	list := voices("-1 +")
	for _, limit := range []int64{0, -1, impl.MaxMembers + 1, -1 << 63, 1<<63 - 1} {
		one, ok := impl.CappedSettlement(list, limit)
		expectList(t, fmt.Sprint("CappedSettlement with the limit ", limit), one, ok, nil, false)
		one, ok = impl.CapProof(list, limit)
		expectList(t, fmt.Sprint("CapProof with the limit ", limit), one, ok, nil, false)
	}
	for _, limit := range []int64{2, impl.MaxMembers} {
		one, ok := impl.CappedSettlement(list, limit)
		expectList(t, fmt.Sprint("CappedSettlement with the limit ", limit), one, ok, []int64{1, 1}, true)
		one, ok = impl.CapProof(list, limit)
		expectList(t, fmt.Sprint("CapProof with the limit ", limit), one, ok, nil, true)
	}
}
