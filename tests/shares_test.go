package tests

import (
	"fmt"
	"math/rand"
	"slices"
	"strings"
	"testing"

	"loop.example/g01095/impl"
)

func TestValidShares(t *testing.T) {
	for _, text := range []string{"", ";", "1:12;", ";0:1", "1:12;0:12", ";;;;;", "1:1,2:11;;", "1:6,2:5;0:1,2:11;0:12", "5:12;;;;;0:12", "1:1,2:1,3:1,4:1,5:8;;;;;", fullShares} {
		if !impl.ValidShares(shares(text)) {
			t.Errorf("ValidShares of %q is false", text)
		}
	}
	for _, list := range sampleShares(40) {
		if !impl.ValidShares(list) {
			t.Errorf("ValidShares of %q is false", sharesText(list))
		}
	}
	if !impl.ValidShares([][]impl.Share{{}, nil}) {
		t.Error("ValidShares of empty lists is false")
	}
	for name, list := range invalidShares() {
		if impl.ValidShares(list) {
			t.Errorf("ValidShares is true for %s: %v", name, list)
		}
	}
}

func TestSharesText(t *testing.T) {
	for _, list := range append(sampleShares(41), [][]impl.Share{{}, {}}) {
		text, ok := impl.SharesText(list)
		expect(t, fmt.Sprint("SharesText of ", list), text, ok, sharesText(list), true)
		back, ok := impl.ReadShares(text)
		if !ok || !sameShares(back, list) {
			t.Errorf("ReadShares of %q: got %v, %v, want %v", text, back, ok, list)
		}
	}
}

func TestReadSharesInvalid(t *testing.T) {
	for _, s := range []string{
		" ", "1", "x", ":", ",", "1:", ":1;", "1:1", "0:1", "1:13;", "1:0;", "01:1;", "1:01;", "+1:1;", "1:+1;", "1:-1;", "-1:1;", "-0:1;", "1:1 ;", " 1:1;", "1: 1;", "1:1; ", "1:1;\n",
		"1:1,;", ",1:1;", "1:1,,2:1;;", "1:1:1;", "1::1;", "1=1;", "1:1.2:1;;", "1:1;2:1", "2:6,1:6;;", "1:6,1:6;;", "1:7,2:6;;", ";;;;;;", "1:12,;", ";1:1", "1:12\x00;", "1:١;", "1:999999999999999999999;",
		"1:4294967297;", "4294967297:1;", "1:18446744073709551617;", fullShares + ";", fullShares + ",", strings.Repeat(";", 100),
	} {
		list, ok := impl.ReadShares(s)
		if ok || list != nil {
			t.Errorf("ReadShares of %q: got %v, %v", s, list, ok)
		}
	}
}

// fewShares returns all valid lists of at most two shares.
func fewShares() [][][]impl.Share {
	var lists [][][]impl.Share
	for members := 1; members <= impl.MaxSharers; members++ {
		var single [][][]impl.Share
		for from := range members {
			for _, to := range others(members, from) {
				for part := int64(1); part <= impl.WholeBallot; part++ {
					list := make([][]impl.Share, members)
					list[from] = []impl.Share{{To: to, Part: part}}
					single = append(single, list)
				}
			}
		}
		lists = append(append(lists, make([][]impl.Share, members)), single...)
		for _, a := range single {
			for _, b := range single {
				both := make([][]impl.Share, members)
				for i := range both {
					both[i] = slices.Concat(a[i], b[i])
				}
				if isIncreasing(both) {
					lists = append(lists, both)
				}
			}
		}
	}
	return lists
}

// isIncreasing reports whether each two shares of a member have increasing receivers and add up to a ballot at most.
func isIncreasing(list [][]impl.Share) bool {
	for _, own := range list {
		if len(own) == 2 && (own[0].To >= own[1].To || own[0].Part+own[1].Part > impl.WholeBallot) {
			return false
		}
	}
	return true
}

func TestReadSharesOfAllShortTexts(t *testing.T) {
	lists := map[string][][]impl.Share{}
	for _, list := range fewShares() {
		lists[sharesText(list)] = list
	}
	checkReading(t, impl.ReadShares, lists, sameShares, words("0123:,;-", 6))
}

func TestUnitShares(t *testing.T) {
	for _, c := range []struct{ voices, want string }{
		{"+", ""}, {"-1 +", "1:12;"}, {"-1 +0", "1:12;"}, {"-1 -0", "1:12;0:12"}, {"-2,1 -0,2 +0,1", "2:12;0:12;"}, {"+1 +0", ";"},
		{"-5 -4 -3 -2 -1 -0", "5:12;4:12;3:12;2:12;1:12;0:12"}, {"+ + + + + +", ";;;;;"},
	} {
		list, ok := impl.UnitShares(voices(c.voices))
		if !ok || sharesText(list) != c.want || !impl.ValidShares(list) {
			t.Errorf("UnitShares of %q: got %v, %v, want %q", c.voices, list, ok, c.want)
		}
	}
	for _, text := range []string{"-", "- +", "+ -", "-1 -", "-1 +0 - +", "+ + + + + + +", "-1 -2 -3 -4 -5 -6 +", "-0", "-1", "+0", "-1,1 +", longest} {
		if list, ok := impl.UnitShares(voices(text)); ok || list != nil {
			t.Errorf("UnitShares of %q: got %v, %v", text, list, ok)
		}
	}
	for name, list := range invalidVoices() {
		if shares, ok := impl.UnitShares(list); ok || shares != nil {
			t.Errorf("UnitShares of a list with %s: got %v, %v", name, shares, ok)
		}
	}
}

func TestKeptParts(t *testing.T) {
	for _, c := range []struct {
		text string
		want []int64
	}{
		{"", []int64{12}}, {"1:12;0:6,2:6;", []int64{0, 0, 12}}, {"1:1;0:11", []int64{11, 1}}, {fullShares, []int64{0, 7, 0, 2, 0, 0}},
	} {
		got, ok := impl.KeptParts(shares(c.text))
		expectList(t, "KeptParts of "+c.text, got, ok, c.want, true)
	}
	for _, list := range sampleShares(42) {
		var want []int64
		for i := range list {
			kept := partOf(list, i, i)
			want = append(want, kept.Mul(kept, rational(impl.WholeBallot)).Num().Int64())
		}
		got, ok := impl.KeptParts(list)
		expectList(t, "KeptParts of "+sharesText(list), got, ok, want, true)
	}
}

func TestReachedAndTrapped(t *testing.T) {
	for _, list := range sampleShares(43) {
		what := " of " + sharesText(list)
		for i, row := range reaches(list) {
			var want []int64
			for j, reached := range row {
				if reached {
					want = append(want, int64(j))
				}
			}
			got, ok := impl.ReachedFrom(list, int64(i))
			expectList(t, fmt.Sprint("ReachedFrom", what, ", ", i), got, ok, want, true)
		}
		var want []int64
		for i, lost := range trapped(list) {
			if lost {
				want = append(want, int64(i))
			}
		}
		got, ok := impl.TrappedMembers(list)
		expectList(t, "TrappedMembers"+what, got, ok, want, true)
	}
}

func TestTrappedCases(t *testing.T) {
	for _, c := range []struct {
		name, text string
		reached    []int64 // from member 0
		trapped    []int64
	}{
		{"one member", "", []int64{0}, nil},
		{"the document's first example", "1:12;0:6,2:6;", []int64{0, 1, 2}, nil},
		{"the document's second example", "1:12;0:12;", []int64{0, 1}, []int64{0, 1}},
		{"one who passes to trapped members", "1:12;2:12;1:12", []int64{0, 1, 2}, []int64{0, 1, 2}},
		{"one who passes a part to trapped members", "1:11;2:12;1:12", []int64{0, 1, 2}, []int64{1, 2}},
		{"one who passes to a trapped one and another", "1:6,3:6;2:12;1:12;", []int64{0, 1, 2, 3}, []int64{1, 2}},
		{"a part kept behind a circle", "1:12;2:12;0:11,3:1;", []int64{0, 1, 2, 3}, nil},
		{"the least part kept in a circle", "1:12;2:12;0:11", []int64{0, 1, 2}, nil},
		{"two circles of trapped members", "1:12;0:12;3:12;2:12;", []int64{0, 1}, []int64{0, 1, 2, 3}},
		{"one way only", ";0:12", []int64{0}, nil},
		{"a way through lesser members", "5:1;;1:1;2:1;3:1;4:1", []int64{0, 1, 2, 3, 4, 5}, nil},
		{"all in one circle", "1:12;2:12;3:12;4:12;5:12;0:12", []int64{0, 1, 2, 3, 4, 5}, []int64{0, 1, 2, 3, 4, 5}},
	} {
		got, ok := impl.ReachedFrom(shares(c.text), 0)
		expectList(t, c.name+": ReachedFrom", got, ok, c.reached, true)
		got, ok = impl.TrappedMembers(shares(c.text))
		expectList(t, c.name+": TrappedMembers", got, ok, c.trapped, true)
	}
}

func TestTakeBack(t *testing.T) {
	random := rand.New(rand.NewSource(44))
	for _, list := range sampleShares(44) {
		member := random.Intn(len(list))
		want := slices.Clone(list)
		want[member] = nil
		got, ok := impl.TakeBack(list, int64(member))
		if !ok || !sameShares(got, want) {
			t.Errorf("TakeBack of %q, %d: got %v, %v", sharesText(list), member, got, ok)
		}
		if kept, _ := impl.KeptParts(got); kept[member] != impl.WholeBallot {
			t.Errorf("TakeBack of %q, %d: it keeps %d", sharesText(list), member, kept[member])
		}
	}
}

// shareFailures reports the functions of a list and a member that do not fail with zero values, and, if the list is invalid, those of a list alone.
func shareFailures(t *testing.T, what string, list [][]impl.Share, member int64) {
	t.Helper()
	reached, ok := impl.ReachedFrom(list, member)
	expectList(t, what+": ReachedFrom", reached, ok, nil, false)
	ends, ok := impl.EndsOf(list, member)
	expect(t, what+": EndsOf", len(ends), ok, 0, false)
	steps, ok := impl.StepsOf(list, member)
	expect(t, what+": StepsOf", steps, ok, impl.Fraction{}, false)
	taken, ok := impl.TakeBack(list, member)
	expect(t, what+": TakeBack", len(taken), ok, 0, false)
	if impl.ValidShares(list) {
		return
	}
	text, ok := impl.SharesText(list)
	expect(t, what+": SharesText", text, ok, "", false)
	parts, ok := impl.KeptParts(list)
	expectList(t, what+": KeptParts", parts, ok, nil, false)
	parts, ok = impl.TrappedMembers(list)
	expectList(t, what+": TrappedMembers", parts, ok, nil, false)
	received, ok := impl.ReceivedOf(list)
	expect(t, what+": ReceivedOf", len(received), ok, 0, false)
	powers, ok := impl.PowersOf(list)
	expect(t, what+": PowersOf", len(powers), ok, 0, false)
	lost, ok := impl.LostPart(list)
	expect(t, what+": LostPart", lost, ok, impl.Fraction{}, false)
	after, ok := impl.AfterPasses(list, 0)
	expect(t, what+": AfterPasses", len(after), ok, 0, false)
	for _, amounts := range [][]impl.Fraction{nil, make([]impl.Fraction, len(list)), slices.Repeat([]impl.Fraction{frac(1, 1)}, len(list))} {
		if impl.IsSettled(list, amounts) {
			t.Errorf("%s: IsSettled is true for %v", what, amounts)
		}
	}
}

func TestSharesInvalid(t *testing.T) {
	for name, list := range invalidShares() {
		shareFailures(t, name, list, 0)
	}
}

func TestNoSharer(t *testing.T) {
	for _, text := range []string{"", ";", "1:12;0:6,2:6;", fullShares} {
		list := shares(text)
		for _, member := range []int64{-1, int64(len(list)), -1 << 63, 1<<63 - 1, 1 << 32} {
			shareFailures(t, fmt.Sprint("member ", member, " of ", text), list, member)
		}
	}
}
