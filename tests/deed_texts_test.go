package tests

import (
	"fmt"
	"math/rand"
	"strings"
	"testing"

	"loop.example/g01095/impl"
)

// longestDeed has the longest text that a deed can have.
func longestDeed() impl.Deed {
	d := deed("propose 11 abcdefghij 999 999 1000 +1 a")
	d.Patch = nil
	for i := range int64(impl.MaxEdits) {
		old, changed := strings.Repeat("a", impl.MaxText), strings.Repeat("z", impl.MaxText)
		d.Patch = append(d.Patch, impl.Edit{Kind: impl.EditChange, Id: 84 + i, Old: old, New: changed})
	}
	return d
}

// usualDeeds are texts of deeds of each kind, with as little and with as much as there can be.
func usualDeeds() []string {
	return []string{
		"next", "trust 0", "trust 11", "trust 0 1", "trust 1 0", "trust 2 11", "trust 11 10,9,8,7", "trust 5 0,1,2,3", "trust 3 10,4", "vote 0 park none", "vote 11 park yes", "vote 10 a no", "vote 1 abcdefghij blank", "vote 2 none none", "vote 2 next yes",
		"propose 0 park 1 2 9 +1 dogs are led;", "propose 11 zzzzzzzzzz 999 999 1000 -99 a;", "propose 10 a 1 1 2 ~10 a  b|0 9;", "propose 1 trust 1 1 1000 +1 a;-2 b;~3 c|d;", "propose 0 park 1 2 9 +1 1 2  3   4;", deedText(longestDeed()),
		"propose 0 park 5 5 6 " + strings.ReplaceAll(patchText(addAll(1, impl.MaxEdits)), "\n", ";"),
	}
}

func checkReadDeed(t *testing.T, text string) {
	t.Helper()
	checkRead(t, text, isTextOfADeed(text), deed, impl.ReadDeed, sameDeed)
}

func TestDeedText(t *testing.T) {
	for _, text := range usualDeeds() {
		got, ok := impl.DeedText(deed(text))
		expect(t, "DeedText", got, ok, text, true)
		d, ok := impl.ReadDeed(text)
		expectDeed(t, fmt.Sprintf("ReadDeed of %q", text), d, ok, deed(text), true)
		if !isTextOfADeed(text) {
			t.Errorf("%q is not taken for the text of a deed", text)
		}
	}
	got, ok := impl.DeedText(impl.Deed{Kind: impl.DeedTrust, Trust: []int64{}, Patch: []impl.Edit{}})
	expect(t, "DeedText with empty lists", got, ok, "trust 0", true)
}

// All votes of all members, and all trust of a member in up to two others.
func TestAllSmallDeedsAreReadBack(t *testing.T) {
	check := func(d impl.Deed, text string) {
		t.Helper()
		got, ok := impl.DeedText(d)
		expect(t, "DeedText", got, ok, text, true)
		back, ok := impl.ReadDeed(text)
		expectDeed(t, fmt.Sprintf("ReadDeed of %q", text), back, ok, d, true)
	}
	for member := range int64(impl.MaxMembers) {
		for vote, word := range []string{"none", "yes", "no", "blank"} {
			check(impl.Deed{Kind: impl.DeedVote, Member: member, Title: "park", Vote: int64(vote)}, fmt.Sprint("vote ", member, " park ", word))
		}
		check(impl.Deed{Kind: impl.DeedTrust, Member: member}, fmt.Sprint("trust ", member))
		for _, one := range others(impl.MaxMembers, int(member)) {
			check(impl.Deed{Kind: impl.DeedTrust, Member: member, Trust: []int64{one}}, fmt.Sprint("trust ", member, " ", one))
			for _, two := range others(impl.MaxMembers, int(member)) {
				if two != one {
					check(impl.Deed{Kind: impl.DeedTrust, Member: member, Trust: []int64{one, two}}, fmt.Sprint("trust ", member, " ", one, ",", two))
				}
			}
		}
	}
	for _, days := range proposedDays() {
		d := impl.Deed{Kind: impl.DeedPropose, Title: "a", Closes: days[0], From: days[1], Until: days[2], Patch: patch("+1 a")}
		check(d, fmt.Sprint("propose 0 a ", days[0], " ", days[1], " ", days[2], " +1 a;"))
	}
	for _, text := range sentences() {
		for _, p := range [][]impl.Edit{{{Kind: impl.EditAdd, Id: 1, New: text}}, {{Kind: impl.EditDrop, Id: 99, Old: text}}, {{Kind: impl.EditChange, Id: 10, Old: text, New: "q"}}, {{Kind: impl.EditChange, Id: 10, Old: "q", New: text}, {Kind: impl.EditAdd, Id: 11, New: text}}} {
			check(impl.Deed{Kind: impl.DeedPropose, Title: "a", Closes: 1, From: 1, Until: 2, Patch: p}, "propose 0 a 1 1 2 "+strings.ReplaceAll(patchText(p), "\n", ";"))
		}
	}
}

func TestRandomDeedsAreReadBack(t *testing.T) {
	random := rand.New(rand.NewSource(400))
	kinds := map[int64]int{}
	for _, a := range randomAssemblies(401, 100, 100) {
		for range 10 {
			d := randomDeed(random, a)
			kinds[d.Kind]++
			text, ok := impl.DeedText(d)
			expect(t, fmt.Sprintf("DeedText of %+v", d), text, ok, deedText(d), true)
			back, ok := impl.ReadDeed(text)
			expectDeed(t, fmt.Sprintf("ReadDeed of %q", text), back, ok, d, true)
		}
	}
	for kind := int64(impl.DeedTrust); kind <= impl.DeedNext; kind++ {
		if kinds[kind] < 50 {
			t.Errorf("only %d deeds have the kind %d", kinds[kind], kind)
		}
	}
}

func TestDeedTextRefuses(t *testing.T) {
	for name, d := range invalidDeeds() {
		text, ok := impl.DeedText(d)
		expect(t, "DeedText of "+name, text, ok, "", false)
		// What would be the text of an invalid deed may still be that of another one.
		checkReadDeed(t, deedText(d))
	}
}

// Texts are nearly those of deeds if one byte is left out, put in or another one.
func TestReadDeedOfNearTexts(t *testing.T) {
	random := rand.New(rand.NewSource(402))
	texts := usualDeeds()
	for _, a := range randomAssemblies(403, 30, 10) {
		texts = append(texts, deedText(randomDeed(random, a)))
	}
	for _, text := range texts {
		if len(text) > 400 {
			continue
		}
		for near := range nearTexts(text, "0129 ,;-+~|an\n\t\x00\xff") {
			checkReadDeed(t, near)
		}
	}
}

func TestReadDeedOfAllShortTexts(t *testing.T) {
	for _, end := range words("01, 2", 5) {
		checkReadDeed(t, "trust "+end)
		checkReadDeed(t, "trust 1"+end)
		checkReadDeed(t, "next"+end)
		checkReadDeed(t, "vote 0 a yes"+end)
	}
	for _, end := range words("+-1 a;", 6) {
		checkReadDeed(t, "propose 0 a 1 1 2 "+end)
	}
	for n := range 1200 {
		for _, number := range []string{"%d", "0%d", "-%d", "+%d", "%d.0", "%dx", " %d", "%d "} {
			digits := fmt.Sprintf(number, n)
			for _, text := range []string{"trust N", "trust 0 N", "trust 0 1,N", "vote N a yes", "propose N a 1 1 2 +1 a;", "propose 0 a N 999 1000 +1 a;", "propose 0 a 1 N 1000 +1 a;", "propose 0 a 1 1 N +1 a;", "propose 0 a 1 1 2 +N a;"} {
				checkReadDeed(t, strings.ReplaceAll(text, "N", digits))
			}
		}
	}
}

func TestReadDeedInvalid(t *testing.T) {
	texts := []string{
		"", " ", "\n", "  ", "fly", "Next", "NEXT", "nexte", "nex", "next ", " next", "next\n", "next\t", "next next", "next 0", "next  ", "\xff", "ｎext", "undo", "0", "trust", "trust ", "trust  ", "trust  0", "trust 0 ", "trust 0  1", " trust 0", "trust 0\n", "trust\t0", "trust 0\t1", "Trust 0",
		"trust 0 1 ", "trust 0 1 2", "trust 0 1, 2", "trust 0 1,2,", "trust 0 ,1", "trust 0 1,,2", "trust 0 ,", "trust 0,1", "trust 0 1;2", "trust 0 0", "trust 0 1,1", "trust 0 12", "trust 12", "trust 12 0", "trust -1", "trust -0", "trust +1", "trust 01", "trust 00", "trust 0 01", "trust 0 +1", "trust 0 -1", "trust 0 1,2,3,4,5",
		"trust 1000000000", "trust 9223372036854775808", "trust 18446744073709551616", "trust 0 18446744073709551617", "trust 0x1", "trust 1e1", "trust 1.0", "trust １", "trust a", "trust 0 a",
		"vote", "vote 0", "vote 0 park", "vote 0 park ", "vote 0 park yes ", " vote 0 park yes", "vote  0 park yes", "vote 0  park yes", "vote 0 park  yes", "vote 0 park yes no", "vote 0 park yes\n", "vote 0\tpark yes", "vote park yes", "vote 0 yes", "vote 0  yes", "vote 12 park yes", "vote -1 park yes", "vote +1 park yes", "vote 01 park yes", "vote -0 park yes",
		"vote 0 park", "vote 0 park abstain", "vote 0 park Yes", "vote 0 park y", "vote 0 park yess", "vote 0 park 1", "vote 0 park yes,no", "vote 0 Park yes", "vote 0 park1 yes", "vote 0 abcdefghijk yes", "vote 0 pärk yes", "vote 0 p\xffrk yes", "vote 18446744073709551616 park yes", "vote 4294967296 park yes",
		"propose", "propose 0", "propose 0 park", "propose 0 park 1", "propose 0 park 1 2", "propose 0 park 1 2 9", "propose 0 park 1 2 9 ", "propose 0 park 1 2 9 ;", "propose 0 park 1 2 9 +1 a", "propose 0 park 1 2 9 +1 a;;", "propose 0 park 1 2 9 ;+1 a;", "propose 0 park 1 2 9 +1 a;;+2 a;", "propose 0 park 1 2 9 +1 a+2 a;", "propose 0 park 1 2 9 +1 a;+2 a",
		"propose 0 park 1 2 9 +1 a\n", "propose 0 park 1 2 9 +1 a;\n", "propose 0 park 1 2 9 +1 a\n+2 a;", "propose 0 park 1 2 9 +1 a; ", "propose 0 park 1 2 9 +1 a ;", "propose 0 park 1 2 9  +1 a;", "propose 0 park 1 2 9 +1  a;", "propose 0 park 1 2 9 +1 a; +2 a;", "propose 0 park 1 2  9 +1 a;", "propose 0 park 1  2 9 +1 a;", "propose 0 park  1 2 9 +1 a;", "propose 0  1 2 9 +1 a;", "propose 0 park 1 2 9 +1 a|b;",
		"propose 0 park 1 2 9 ~1 a;", "propose 0 park 1 2 9 ~1 a|a;", "propose 0 park 1 2 9 *1 a;", "propose 0 park 1 2 9 +1 A;", "propose 0 park 1 2 9 +1 ä;", "propose 0 park 1 2 9 +1 \xff;", "propose 0 park 1 2 9 +1 \ufffd;", "propose 0 park 1 2 9 +0 a;", "propose 0 park 1 2 9 +01 a;", "propose 0 park 1 2 9 +100 a;", "propose 0 park 1 2 9 +2 a;+1 a;", "propose 0 park 1 2 9 +1 a;+1 a;", "propose 0 park 1 2 9 +1\ta;", "propose 0 park 1 2 9 +1 " + strings.Repeat("a", impl.MaxText+1) + ";",
		"propose 0 park 2 1 9 +1 a;", "propose 0 park 1 2 2 +1 a;", "propose 0 park 0 2 9 +1 a;", "propose 0 park 1 2 1001 +1 a;", "propose 0 park 1000 1000 1001 +1 a;", "propose 0 park 01 2 9 +1 a;", "propose 0 park 1 02 9 +1 a;", "propose 0 park 1 2 09 +1 a;", "propose 0 park +1 2 9 +1 a;", "propose 0 park 1 2 18446744073709551616 +1 a;", "propose 0 park 1 18446744073709551618 9 +1 a;",
		"propose 12 park 1 2 9 +1 a;", "propose 0 Park 1 2 9 +1 a;", "propose 0 park 1 2 9 " + strings.ReplaceAll(patchText(addAll(1, impl.MaxEdits+1)), "\n", ";"),
	}
	for _, text := range texts {
		d, ok := impl.ReadDeed(text)
		expectDeed(t, fmt.Sprintf("ReadDeed of %q", text), d, ok, impl.Deed{}, false)
		checkReadDeed(t, text)
	}
}

// The document's examples.
func TestDeedTextExamples(t *testing.T) {
	text, ok := impl.DeedText(impl.Deed{Kind: impl.DeedVote, Member: 2, Title: "park", Vote: impl.VoteYes})
	expect(t, "DeedText", text, ok, "vote 2 park yes", true)
	d, ok := impl.ReadDeed("propose 0 park 1 2 9 +1 dogs are led;")
	expectDeed(t, "ReadDeed", d, ok, impl.Deed{Kind: impl.DeedPropose, Title: "park", Closes: 1, From: 2, Until: 9, Patch: []impl.Edit{{Kind: impl.EditAdd, Id: 1, New: "dogs are led"}}}, true)
}
