package tests

import (
	"fmt"
	"math"
	"regexp"
	"slices"
	"strings"
	"testing"

	"loop.example/g01095/impl"
)

// chain is a frame in which each argument but the first one is attacked by the one before it.
const chain = "10 0>1 1>2 2>3 3>4 4>5 5>6 6>7 7>8 8>9"

func TestValidFrame(t *testing.T) {
	for _, text := range []string{"0", "1", "1 0>0", "2 0>1", "2 1>0", "2 0>0 0>1 1>0 1>1", "3 0>2 1>0", "3 0>2 2>0 2>1", "10", "10 9>9", "10 0>0 0>9 9>0", chain, frameText(fullFrame())} {
		if !impl.ValidFrame(frame(text)) {
			t.Errorf("ValidFrame of %q is false", text)
		}
	}
	for _, f := range sampleFrames(150, 1000) {
		if !impl.ValidFrame(f) {
			t.Errorf("ValidFrame of %q is false", frameText(f))
		}
	}
	if !impl.ValidFrame(impl.Frame{Attacks: [][]int64{}}) {
		t.Error("ValidFrame of an empty list of attacks is false")
	}
	for name, f := range invalidFrames() {
		if impl.ValidFrame(f) {
			t.Errorf("ValidFrame is true for %s: %v", name, f)
		}
	}
	for count := int64(-100); count <= 100; count++ {
		if got, want := impl.ValidFrame(impl.Frame{Count: count}), count >= 0 && count <= 10; got != want {
			t.Errorf("ValidFrame of %d arguments is %v", count, got)
		}
	}
}

// Each list of at most three attacks is tried, among them those that are not increasing.
func TestValidFrameOfShortLists(t *testing.T) {
	pairs := fullFrame().Attacks
	isSmall := func(attack []int64) bool { return attack[0] <= 2 && attack[1] <= 2 }
	pairs = slices.DeleteFunc(pairs, func(attack []int64) bool { return !isSmall(attack) })
	check := func(attacks ...[]int64) {
		isIncreasing := true
		for i, attack := range attacks[1:] {
			before := attacks[i]
			isIncreasing = isIncreasing && (before[0] < attack[0] || before[0] == attack[0] && before[1] < attack[1])
		}
		for count := range int64(4) {
			isWithin := !slices.ContainsFunc(attacks, func(attack []int64) bool { return max(attack[0], attack[1]) >= count })
			if got := impl.ValidFrame(impl.Frame{Count: count, Attacks: attacks}); got != (isIncreasing && isWithin) {
				t.Errorf("ValidFrame of %d and %v is %v", count, attacks, got)
			}
		}
	}
	for _, a := range pairs {
		check(a)
		for _, b := range pairs {
			check(a, b)
			for _, c := range pairs {
				check(a, b, c)
			}
		}
	}
}

func TestInvalidFramesAreRefused(t *testing.T) {
	for name, f := range invalidFrames() {
		name = " of " + name
		text, ok := impl.FrameText(f)
		expect(t, "FrameText"+name, text, ok, "", false)
		for what, list := range map[string]func(f impl.Frame) ([]int64, bool){
			"RoundsOf": impl.RoundsOf, "GroundedSet": impl.GroundedSet, "IdealSet": impl.IdealSet,
			"AttackersOf": func(f impl.Frame) ([]int64, bool) { return impl.AttackersOf(f, 0) },
			"DefendedBy":  func(f impl.Frame) ([]int64, bool) { return impl.DefendedBy(f, nil) },
			"DefenceOf":   func(f impl.Frame) ([]int64, bool) { return impl.DefenceOf(f, 0) },
			"Discuss":     func(f impl.Frame) ([]int64, bool) { return impl.Discuss(f, 0, strategy("1 1", "-1 -1"), nil) },
		} {
			got, ok := list(f)
			expectList(t, what+name, got, ok, nil, false)
		}
		for what, lists := range map[string]func(f impl.Frame) ([][]int64, bool){"CompleteSets": impl.CompleteSets, "PreferredSets": impl.PreferredSets, "StableSets": impl.StableSets} {
			got, ok := lists(f)
			expectLists(t, what+name, got, ok, nil, false)
		}
		standing, ok := impl.StandingOf(f, 0)
		expect(t, "StandingOf"+name, standing, ok, 0, false)
		reduct, names, ok := impl.ReductOf(f, nil)
		expectFrame(t, "ReductOf"+name, reduct, ok, impl.Frame{}, false)
		expectList(t, "names of ReductOf"+name, names, ok, nil, false)
		s, ok := impl.StrategyFor(f, 0)
		expectStrategy(t, "StrategyFor"+name, s, ok, impl.Strategy{}, false)
		for _, s := range []impl.Strategy{{}, strategy("1 1", "-1 -1"), strategy("1 1 1 1 1 1 1 1 1 1 1", "-1 -1 -1 -1 -1 -1 -1 -1 -1 -1 -1")} {
			if impl.IsConflictFree(f, nil) || impl.IsAdmissible(f, nil) || impl.IsStrategy(f, 0, s) {
				t.Errorf("IsConflictFree, IsAdmissible or IsStrategy%s is true", name)
			}
		}
	}
}

func TestFrameText(t *testing.T) {
	for _, f := range append(sampleFrames(151, 2000), fullFrame(), impl.Frame{Count: 10}) {
		text, ok := impl.FrameText(f)
		expect(t, fmt.Sprint("FrameText of ", f), text, ok, frameText(f), true)
		back, ok := impl.ReadFrame(text)
		expectFrame(t, fmt.Sprintf("ReadFrame of %q", text), back, ok, f, true)
	}
	for _, f := range invalidFrames() {
		checkReadFrame(t, frameText(f))
	}
}

var frameWords = regexp.MustCompile(`\A(?:10|[0-9])(?: [0-9]>[0-9])*\z`)

// isTextOfAFrame looks at the words of a text only, in which all numbers of arguments have one digit.
func isTextOfAFrame(text string) bool {
	if !frameWords.MatchString(text) {
		return false
	}
	words := strings.Split(text, " ")
	for i, word := range words[1:] {
		isBeyond := func(digit byte) bool { return int64(digit-'0') >= integer(words[0]) }
		if isBeyond(word[0]) || isBeyond(word[2]) || i > 0 && word <= words[i] {
			return false
		}
	}
	return true
}

func checkReadFrame(t *testing.T, text string) {
	t.Helper()
	checkRead(t, text, isTextOfAFrame(text), frame, impl.ReadFrame, sameFrame)
}

func TestReadFrameOfAllShortTexts(t *testing.T) {
	for _, text := range words("012> ", 7) {
		checkReadFrame(t, text)
	}
	for _, end := range words("01> -", 6) {
		checkReadFrame(t, "2 0>0"+end)
	}
	for n := range int64(1200) {
		for _, format := range []string{"%d", "%d 0>0", "0%d", "-%d", "+%d", " %d", "%d ", "10 %d>5", "10 5>%d", "10 -%d>5", "10 5>-%d", "10 0%d>5", "10 5>0%d", "10 +%d>5", "10 4>4 5>%d 6>6", "10 4>4 %d>5 6>6"} {
			checkReadFrame(t, fmt.Sprintf(format, n))
		}
	}
}

// Texts are nearly those of frames if one byte is left out, put in or another one.
func TestReadFrameOfNearTexts(t *testing.T) {
	for _, f := range slices.Concat(smallFrames(0), smallFrames(1), smallFrames(2), []impl.Frame{frame("3 0>1 1>2 2>0"), frame("4 0>1 1>0 1>2 2>3"), frame("9 8>8"), frame(chain), fullFrame()}) {
		for text := range nearTexts(frameText(f), "0123459 >-+,;:\n\r\tax\x00\x80\xff") {
			checkReadFrame(t, text)
		}
	}
}

func TestReadFrameInvalid(t *testing.T) {
	for _, text := range []string{
		"", " ", "  ", "\n", "0\n", "\n0", " 0", "0 ", "0  ", "00", "-0", "+0", "0.0", "0x0", "0e0", "0_0", "０", "٠", "a", "-1", "11", "010", "100", "1 ", "1  0>0", "1 0>0 ", "1 0>0\n", "1\n0>0", "1\t0>0", "1,0>0", "1;0>0", "1>0", "1 0>0,0>0",
		"1 0", "1 >", "1 0>", "1 >0", "1 0>>0", "1 0<0", "1 0-0", "1 0->0", "1 0 > 0", "1 0> 0", "1 0 >0", "1 0>0>0", "1 00>0", "1 0>00", "1 -0>0", "1 0>-0", "1 +0>0", "1 0>+0", "1 0>0 0", "1 0>0 >", "1 0>1", "1 1>0", "0 0>0", "2 0>2",
		"2 1>0 0>1", "2 0>1 0>0", "2 0>1 0>1", "2 1>0 1>0", "3 0>1 2>0 1>0", "10 0>10", "10 10>0", "10 0>01", "2 0>1  1>0", "2 0>1 1>0 ", " 2 0>1", "2 0>1\x00", "\xff", "18446744073709551616", "4294967296", "2 4294967296>0", "2 18446744073709551616>1", "2 0>18446744073709551617",
		frameText(fullFrame()) + " 9>9", frameText(fullFrame()) + " 0>0", frameText(fullFrame()) + " ", strings.Repeat("0", 50), strings.Repeat(" ", 50), "2" + strings.Repeat(" 0>1", 50),
	} {
		f, ok := impl.ReadFrame(text)
		expectFrame(t, fmt.Sprintf("ReadFrame of %q", text), f, ok, impl.Frame{}, false)
		if isTextOfAFrame(text) {
			t.Errorf("%q is the text of a frame", text)
		}
	}
}

func TestAttackersOf(t *testing.T) {
	for _, f := range sampleFrames(152, 1000) {
		for a := int64(-2); a <= f.Count+1; a++ {
			var want []int64
			isArgument := a >= 0 && a < f.Count
			for _, attack := range f.Attacks {
				if attack[1] == a {
					want = append(want, attack[0])
				}
			}
			got, ok := impl.AttackersOf(f, a)
			expectList(t, fmt.Sprintf("AttackersOf %q, %d", frameText(f), a), got, ok, want, isArgument)
		}
	}
	for _, c := range []struct {
		name, text string
		a          int64
		want       []int64
		ok         bool
	}{
		{"the document's example", "4 0>1 1>0 1>2 2>3", 0, []int64{1}, true},
		{"an argument with no attacker", "2 0>1", 0, nil, true},
		{"an argument that attacks itself", "2 0>0 1>0", 0, []int64{0, 1}, true},
		{"an argument that all attack", frameText(fullFrame()), 9, others(10, -1), true},
		{"no arguments", "0", 0, nil, false},
		{"the argument behind the last one", "2 0>1", 2, nil, false},
		{"a negative argument", "2 0>1", -1, nil, false},
		{"a far argument", "2 0>1", math.MaxInt64, nil, false},
		{"a far negative argument", "2 0>1", math.MinInt64, nil, false},
		{"an argument beyond bits", "2 0>1", 1 << 32, nil, false},
		{"an argument beyond a set", "2 0>1", 16, nil, false},
	} {
		got, ok := impl.AttackersOf(frame(c.text), c.a)
		expectList(t, c.name, got, ok, c.want, c.ok)
	}
}

func TestSetsOfArguments(t *testing.T) {
	for i, f := range sampleFrames(153, 300) {
		if i%4 > 0 && f.Count == 3 {
			continue
		}
		for _, set := range allSets(f.Count) {
			what := fmt.Sprintf(" of %q, %v", frameText(f), set)
			defended := defendedIn(f, set)
			isFree := conflictFreeIn(f, set)
			if got := impl.IsConflictFree(f, set); got != isFree {
				t.Errorf("IsConflictFree%s is %v", what, got)
			}
			if got, want := impl.IsAdmissible(f, set), isFree && isPart(set, defended); got != want {
				t.Errorf("IsAdmissible%s is %v", what, got)
			}
			got, ok := impl.DefendedBy(f, set)
			expectList(t, "DefendedBy"+what, got, ok, defended, true)
		}
	}
}

func TestSetCases(t *testing.T) {
	for _, c := range []struct {
		name, text         string
		set                []int64
		isFree, isAdmitted bool
		defended           string
	}{
		{"the empty set of no arguments", "0", nil, true, true, "[]"},
		{"the empty set", "2 0>1", []int64{}, true, true, "[0]"},
		{"the empty set defends who has no attacker", "3", nil, true, true, "[0 1 2]"},
		{"the set of all arguments without attacks", "10", others(10, -1), true, true, "[0 1 2 3 4 5 6 7 8 9]"},
		{"the set of all arguments with an attack", "2 0>1", []int64{0, 1}, false, false, "[0]"},
		{"the set of all arguments of a circle", "3 0>1 1>2 2>0", []int64{0, 1, 2}, false, false, "[0 1 2]"},
		{"the set of all arguments of a full frame", frameText(fullFrame()), others(10, -1), false, false, "[0 1 2 3 4 5 6 7 8 9]"},
		{"one argument", "1", []int64{0}, true, true, "[0]"},
		{"an argument that attacks itself", "1 0>0", []int64{0}, false, false, "[0]"},
		{"an argument that attacks itself is not in the set", "2 0>0 0>1", []int64{1}, true, false, "[]"},
		{"an argument that attacks itself, together with others", "3 0>0 1>2", []int64{0, 1}, false, false, "[0 1]"},
		{"a set that defends an argument and is not conflict-free", "4 0>1 1>2 2>3", []int64{0, 1, 2}, false, false, "[0 2 3]"},
		{"a set that defends its arguments and is not conflict-free", "2 0>1 1>0", []int64{0, 1}, false, false, "[0 1]"},
		{"the first one of two that attack each other", "2 0>1 1>0", []int64{0}, true, true, "[0]"},
		{"the second one of two that attack each other", "2 0>1 1>0", []int64{1}, true, true, "[1]"},
		{"an argument that is not defended", "2 0>1", []int64{1}, true, false, "[0]"},
		{"an argument that another one defends", "3 0>1 1>2", []int64{0, 2}, true, true, "[0 2]"},
		{"an argument with two attackers, one of which is attacked", "4 0>1 1>2 3>2", []int64{0, 2}, true, false, "[0 3]"},
		{"more is defended than the set has", "5 0>1 1>2 1>3 1>4", []int64{0}, true, true, "[0 2 3 4]"},
		{"attacks between the last arguments", "10 9>8", []int64{8, 9}, false, false, "[0 1 2 3 4 5 6 7 9]"},
		{"an attack in the other direction", "10 8>9", []int64{8, 9}, false, false, "[0 1 2 3 4 5 6 7 8]"},
	} {
		f := frame(c.text)
		if impl.IsConflictFree(f, c.set) != c.isFree || impl.IsAdmissible(f, c.set) != c.isAdmitted {
			t.Errorf("%s: IsConflictFree and IsAdmissible are %v and %v", c.name, impl.IsConflictFree(f, c.set), impl.IsAdmissible(f, c.set))
		}
		got, ok := impl.DefendedBy(f, c.set)
		expect(t, c.name+": DefendedBy", fmt.Sprint(got), ok, c.defended, true)
	}
}

func TestListsThatAreNoSets(t *testing.T) {
	for _, text := range []string{"0", "1", "1 0>0", "2 0>1", "3", "3 0>1 1>2 2>0", "10", chain} {
		f := frame(text)
		for _, list := range noSetsOf(f.Count) {
			what := fmt.Sprintf(" of %q, %v", text, list)
			if isSet := slices.ContainsFunc(allSets(f.Count), func(set []int64) bool { return slices.Equal(set, list) }); isSet {
				continue
			}
			if impl.IsConflictFree(f, list) || impl.IsAdmissible(f, list) {
				t.Errorf("IsConflictFree or IsAdmissible%s is true", what)
			}
			got, ok := impl.DefendedBy(f, list)
			expectList(t, "DefendedBy"+what, got, ok, nil, false)
			reduct, names, ok := impl.ReductOf(f, list)
			expectFrame(t, "ReductOf"+what, reduct, ok, impl.Frame{}, false)
			expectList(t, "names of ReductOf"+what, names, ok, nil, false)
		}
	}
}
