package tests

import (
	"fmt"
	"math/rand"
	"regexp"
	"strings"
	"testing"

	"loop.example/g01095/impl"
)

const oneSentence = `[a-z0-9](?:[a-z0-9 ]{0,22}[a-z0-9])?`

var (
	articleLine = regexp.MustCompile(`\A([1-9][0-9]?) ` + oneSentence + `\z`)
	plainEdit   = regexp.MustCompile(`\A[+-]([1-9][0-9]?) ` + oneSentence + `\z`)
	changeEdit  = regexp.MustCompile(`\A~([1-9][0-9]?) (` + oneSentence + `)\|(` + oneSentence + `)\z`)
)

// areLines reports whether a text consists of at most so many lines with increasing Ids, which id reads.
func areLines(text string, most int, id func(line string) (int64, bool)) bool {
	list := strings.Split(text, "\n")
	last := len(list) - 1
	before := int64(0)
	for _, line := range list[:last] {
		n, ok := id(line)
		if !ok || n <= before {
			return false
		}
		before = n
	}
	return last <= most && list[last] == ""
}

func idOfArticle(line string) (int64, bool) {
	if parts := articleLine.FindStringSubmatch(line); parts != nil {
		return integer(parts[1]), true
	}
	return 0, false
}

func idOfEdit(line string) (int64, bool) {
	if parts := plainEdit.FindStringSubmatch(line); parts != nil {
		return integer(parts[1]), true
	}
	if parts := changeEdit.FindStringSubmatch(line); parts != nil && parts[2] != parts[3] {
		return integer(parts[1]), true
	}
	return 0, false
}

// checkReadBoth checks what is read of a text that may be that of a statute, of a patch or of neither, and reports whether it is one.
func checkReadBoth(t *testing.T, text string) bool {
	t.Helper()
	var wantStatute []impl.Article
	isStatute := areLines(text, impl.MaxArticles, idOfArticle)
	if isStatute {
		wantStatute = statute(brief(text))
	}
	s, ok := impl.ReadStatute(text)
	expectList(t, fmt.Sprintf("ReadStatute of %q", text), s, ok, wantStatute, isStatute)
	var wantPatch []impl.Edit
	isPatch := areLines(text, impl.MaxEdits, idOfEdit)
	if isPatch {
		wantPatch = patch(brief(text))
	}
	p, ok := impl.ReadPatch(text)
	expectList(t, fmt.Sprintf("ReadPatch of %q", text), p, ok, wantPatch, isPatch)
	return isStatute || isPatch
}

func TestTextsAreReadBack(t *testing.T) {
	random := rand.New(rand.NewSource(130))
	statutes := append(smallStatutes([]int64{1, 10, 99}, "a", "0 9"), statute("1 a;2 b;3 c;4 d;5 e;6 f;7 g;8 h"))
	patches := append(smallPatches([]int64{9, 10}, "a", "0 9"), addAll(1, impl.MaxEdits), addAll(84, impl.MaxEdits))
	for range 2000 {
		s := randomStatute(random)
		statutes, patches = append(statutes, s), append(patches, randomPatch(random, s))
	}
	for _, s := range statutes {
		text, ok := impl.StatuteText(s)
		expect(t, fmt.Sprintf("StatuteText of %v", s), text, ok, statuteText(s), true)
		back, ok := impl.ReadStatute(text)
		expectList(t, fmt.Sprintf("ReadStatute of %q", text), back, ok, s, true)
	}
	for _, p := range patches {
		text, ok := impl.PatchText(p)
		expect(t, fmt.Sprintf("PatchText of %v", p), text, ok, patchText(p), true)
		back, ok := impl.ReadPatch(text)
		expectList(t, fmt.Sprintf("ReadPatch of %q", text), back, ok, p, true)
	}
}

func TestReadBothOfAllShortTexts(t *testing.T) {
	for _, text := range words("12 a\n", 7) {
		checkReadBoth(t, text)
	}
	count := 0
	for _, line := range words("+-~1 a|", 6) {
		if checkReadBoth(t, line+"\n") {
			count++
		}
	}
	if count < 100 {
		t.Errorf("only %d of these are texts", count)
	}
	for id := range 1200 {
		for _, number := range []string{"%d", "0%d", "-%d", "+%d", "%d ", " %d"} {
			for _, words := range []string{" a\n", " a|b\n"} {
				for _, sign := range []string{"", "+", "-", "~"} {
					checkReadBoth(t, sign+fmt.Sprintf(number, id)+words)
				}
			}
		}
	}
}

// TestReadBothOfNearTexts tries texts that differ in one byte from those of a statute or of a patch.
func TestReadBothOfNearTexts(t *testing.T) {
	full, long := brief(patchText(addAll(1, impl.MaxEdits))), strings.Repeat("a", impl.MaxText)
	for _, text := range []string{
		"1 a", "1 a;2 b", "9 a b;10 0", "1 a;2 b;3 c;4 d;5 e;6 f;7 g;8 h", "99 " + long, "+1 a", "-1 a", "~1 a|b", "~1 a|ab", "+1 a;-2 b;~3 c|d", "~98 a b|a  b;+99 z", full, "~1 " + long + "|b;~2 b|" + long,
	} {
		text = strings.ReplaceAll(text, ";", "\n") + "\n"
		if !checkReadBoth(t, text) {
			t.Errorf("%q is no text", text)
		}
		for near := range nearTexts(text, "+-~| \n\r\t\x000129abzA;:\x80\xff") {
			checkReadBoth(t, near)
		}
	}
}

func TestReadBothInvalid(t *testing.T) {
	texts := []string{
		"\n", " ", " \n", "1 a", "1", "1\n", "1 \n", "1  \n", " 1 a\n", "1  a\n", "1 a \n", "1\ta\n", "a\n", "a 1\n", "1 a\n\n", "\n1 a\n", "1 a\n\n2 a\n", "1 a\n2 a", "1 a\r\n", "1 a\n ", "1 A\n", "1 a|b\n", "1 a\n1 a\n", "2 a\n1 a\n",
		"0 a\n", "100 a\n", "01 a\n", "-1 a\n1 a\n", "10000000000 a\n", "18446744073709551617 a\n", "１ a\n", "1.0 a\n", "1e1 a\n", "0x1 a\n", "1_0 a\n", "1 " + strings.Repeat("a", impl.MaxText+1) + "\n", "1 a;2 b\n", "1 a;\n",
		"1 a\n2 b\n3 c\n4 d\n5 e\n6 f\n7 g\n8 h\n9 i\n", "+", "+\n", "-\n", "~\n", "+1\n", "+1 \n", "+a\n", "+1 a", "+ 1 a\n", "+1  a\n", "++1 a\n", "+-1 a\n", "-+1 a\n", "--1 a\n", "~~1 a|b\n", "~-1 a|b\n", "+1 a|b\n", "-1 a|b\n", "+1 |a\n", "-1 a|\n", "~1 a\n", "~1 |\n", "~1 a|\n",
		"~1 |a\n", "~1 a|a\n", "~1 a b|a b\n", "~1 a|b|c\n", "~1 a||b\n", "~1 a |b\n", "~1 a| b\n", "~1 a|b \n", "~1 a,b\n", "~1 a b\n", "~1|a b\n", "=1 a\n", "*1 a\n", "1 a\n+2 b\n", "+1 a\n2 b\n", "+1 a\n+1 a\n", "+1 a\n-1 a\n", "-2 a\n+1 a\n", "+1 a\n\n+2 b\n", "+1 a\n+2 b",
		"+0 a\n", "+100 a\n", "+01 a\n", "-00 a\n", "~1 a|" + strings.Repeat("a", impl.MaxText+1) + "\n", "~1 " + strings.Repeat("a", impl.MaxText+1) + "|a\n", "\x001 a\n", "\xff\n", "+1 ä\n", "ä1 a\n", patchText(addAll(1, impl.MaxEdits+1)),
	}
	for _, text := range texts {
		if checkReadBoth(t, text) {
			t.Errorf("%q is a text", text)
		}
	}
	// The lines of an invalid patch may still be those of another one.
	for _, s := range invalidStatutes() {
		checkReadBoth(t, statuteText(s))
	}
	for _, p := range invalidPatches() {
		checkReadBoth(t, patchText(p))
	}
}
