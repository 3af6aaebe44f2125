package tests

import (
	"fmt"
	"math"
	"math/rand"
	"slices"
	"strings"
	"testing"

	"loop.example/g01095/impl"
)

func TestValidPool(t *testing.T) {
	for _, text := range []string{"1/1", "7/1", "7/7", "1/1;0=0..0", "1/1;0=7..7", "2/1;0,1=0..7", "7/3;6=3..3", "4/2;0,1=1..1", "2/2;0=2..2;0=0..0", fullPool} {
		if !impl.ValidPool(pool(text)) {
			t.Errorf("ValidPool of %q is false", text)
		}
	}
	for _, p := range samplePools(60, 500) {
		if !impl.ValidPool(p) {
			t.Errorf("ValidPool of %q is false", poolText(p))
		}
	}
	if !impl.ValidPool(impl.Pool{People: 3, Size: 2, Quotas: []impl.Quota{}}) {
		t.Error("ValidPool of an empty list of quotas is false")
	}
	for name, p := range invalidPools() {
		if impl.ValidPool(p) {
			t.Errorf("ValidPool is true for %s: %+v", name, p)
		}
	}
}

func TestPoolText(t *testing.T) {
	for _, p := range samplePools(61, 500) {
		text, ok := impl.PoolText(p)
		expect(t, fmt.Sprintf("PoolText of %+v", p), text, ok, poolText(p), true)
		back, ok := impl.ReadPool(text)
		if !ok || !samePool(back, p) {
			t.Errorf("ReadPool of %q: got %+v, %v", text, back, ok)
		}
	}
	for name, p := range invalidPools() {
		text, ok := impl.PoolText(p)
		expect(t, "PoolText of "+name, text, ok, "", false)
		if back, ok := impl.ReadPool(poolText(p)); ok || !samePool(back, impl.Pool{}) {
			t.Errorf("ReadPool of %q: got %+v, %v", poolText(p), back, ok)
		}
	}
}

func TestReadPoolInvalid(t *testing.T) {
	for _, s := range []string{
		"", " ", "1", "/", "1/", "/1", "1/1/1", "1/1;", ";", "1/1 ", " 1/1", "1 /1", "1/1\n", "01/1", "1/01", "+1/1", "1/+1", "-1/1", "1:1", "1/1;;", ";1/1",
		"2/1;0", "2/1;0=", "2/1;0=1", "2/1;0=1..", "2/1;0=..1", "2/1;0=0.1", "2/1;0=0...1", "2/1;0=0..1..1", "2/1;0=0..1=0..1", "2/1;=0..1", "2/1;0,=0..1", "2/1;,0=0..1", "2/1;0,,1=0..1",
		"2/1;0 =0..1", "2/1; 0=0..1", "2/1;0=0 ..1", "2/1;00=0..1", "2/1;-0=0..1", "2/1;0=-0..1", "2/1;0=00..1", "2/1;0=0..+1", "2/1;0;1=0..1", "2/1;0.1=0..1", "2/1,0=0..1",
		"2/1;0=0..1;", "2/1;;0=0..1", "2/1;0=0..1,1=0..1", "2/1;0=0..1\x00", "２/1", "2/1;0=0..99999999999999999999", "4294967297/1", "18446744073709551617/1", "2/1;4294967296=0..1",
		fullPool + ";", fullPool + ";0=0..1", strings.Repeat(";", 100),
	} {
		if p, ok := impl.ReadPool(s); ok || !samePool(p, impl.Pool{}) {
			t.Errorf("ReadPool of %q: got %+v, %v", s, p, ok)
		}
	}
}

func TestReadPoolOfAllShortTexts(t *testing.T) {
	pools := map[string]impl.Pool{}
	for _, p := range slices.Concat(smallPools(1, impl.MaxPool), smallPools(2, impl.MaxPool), smallPools(3, impl.MaxPool)) {
		pools[poolText(p)] = p
	}
	others := words("0123/;", 5)
	for _, quota := range words("012,.=;", 7) {
		if strings.Count(quota, "=") == 1 && strings.Count(quota, ".") >= 2 {
			others = append(others, "3/2;"+quota)
		}
	}
	for _, a := range quotasFor(3, 2) {
		for _, b := range quotasFor(3, 2) {
			p := impl.Pool{People: 3, Size: 2, Quotas: []impl.Quota{a, b}}
			pools[poolText(p)] = p
		}
	}
	checkReading(t, impl.ReadPool, pools, samePool, others)
}

func TestPanels(t *testing.T) {
	for _, p := range samplePools(62, 600) {
		want := panelsIn(p)
		got, ok := impl.PanelsOf(p)
		if !ok || !sameLists(got, want) {
			t.Errorf("PanelsOf %q: got %v, %v, want %v", poolText(p), got, ok, want)
		}
		for size := range p.People + 1 {
			for _, set := range combinations(p.People, size) {
				isPanel := slices.ContainsFunc(want, func(panel []int64) bool { return slices.Equal(panel, set) })
				if impl.IsPanel(p, set) != isPanel {
					t.Errorf("IsPanel of %q, %v is %v", poolText(p), set, !isPanel)
				}
			}
		}
	}
}

// notSets are lists that are no sets of two of four people.
func notSets() [][]int64 {
	return [][]int64{
		nil, {0}, {0, 1, 2}, {0, 1, 2, 3}, {1, 0}, {1, 1}, {0, 4}, {-1, 0}, {-2, -1}, {4, 5}, {0, math.MaxInt64}, {math.MinInt64, 0}, {math.MinInt64, math.MaxInt64}, {0, 1 << 32}, {1 << 32, 1<<32 + 1},
	}
}

func TestShortfall(t *testing.T) {
	for _, p := range samplePools(63, 600) {
		sets := combinations(p.People, p.Size)
		nearest := sets[0]
		for _, set := range sets {
			if missedBy(p, set) < missedBy(p, nearest) {
				nearest = set
			}
			got, ok := impl.ShortfallOf(p, set)
			expect(t, fmt.Sprintf("ShortfallOf %q, %v", poolText(p), set), got, ok, missedBy(p, set), true)
		}
		set, least, ok := impl.NearestPanel(p)
		expectList(t, "NearestPanel of "+poolText(p), set, ok, nearest, true)
		expect(t, "shortfall of NearestPanel of "+poolText(p), least, ok, missedBy(p, nearest), true)
		if panels := panelsIn(p); len(panels) > 0 && (least != 0 || !slices.Equal(set, panels[0])) {
			t.Errorf("NearestPanel of %q: got %v, %v, but %v is a panel", poolText(p), set, least, panels[0])
		}
	}
	for _, list := range notSets() {
		p := pool("4/2")
		missed, ok := impl.ShortfallOf(p, list)
		expect(t, fmt.Sprint("ShortfallOf ", list), missed, ok, 0, false)
		if impl.IsPanel(p, list) {
			t.Errorf("IsPanel of %v is true", list)
		}
	}
}

func TestPanelCases(t *testing.T) {
	for _, c := range []struct {
		name, text string
		panels     string
		nearest    string
		least      int64
	}{
		{"the document's example", "4/2;0,1=1..1", "[[0 2] [0 3] [1 2] [1 3]]", "[0 2]", 0},
		{"one person", "1/1", "[[0]]", "[0]", 0},
		{"all people", "7/7", "[[0 1 2 3 4 5 6]]", "[0 1 2 3 4 5 6]", 0},
		{"no quota", "4/3", "[[0 1 2] [0 1 3] [0 2 3] [1 2 3]]", "[0 1 2]", 0},
		{"a quota of all people", "3/1;0,1,2=1..1", "[[0] [1] [2]]", "[0]", 0},
		{"one panel", "4/2;0,1=0..0", "[[2 3]]", "[2 3]", 0},
		{"people who must be in it", "4/2;1=1..1;3=1..7", "[[1 3]]", "[1 3]", 0},
		{"people who must not be in it", "3/1;0=0..0;2=0..0", "[[1]]", "[1]", 0},
		{"more members than a panel has", "3/2;0,1,2=3..3", "[]", "[0 1]", 1},
		{"Least greater than the number of members", "3/2;2=2..2", "[]", "[0 2]", 1},
		{"Least greater than all", "3/2;2=7..7", "[]", "[0 2]", 6},
		{"a quota that is not met on either side", "3/2;0,1,2=0..1", "[]", "[0 1]", 1},
		{"too few and too many", "4/2;0,1=2..2;2,3=2..2", "[]", "[0 1]", 2},
		{"too many in two quotas", "4/3;0,1,2,3=0..1;0,1=0..0", "[]", "[0 2 3]", 3},
		{"the last set is the nearest one", "4/2;0,1=0..0;2=2..7", "[]", "[2 3]", 1},
		{"several nearest sets, the first one not among them", "4/2;0,1=1..1;2,3=1..1;0,2=2..2;1,3=2..2", "[]", "[0 2]", 2},
		{"quotas that contradict one another", "3/2;0=1..1;0=0..0", "[]", "[0 1]", 1},
		{"quotas that are equal count each", "3/2;0=2..2;0=2..2;1=0..0", "[]", "[0 2]", 2},
	} {
		panels, ok := impl.PanelsOf(pool(c.text))
		expect(t, c.name+": PanelsOf", fmt.Sprint(panels), ok, c.panels, true)
		nearest, least, ok := impl.NearestPanel(pool(c.text))
		expect(t, c.name+": NearestPanel", fmt.Sprint(nearest), ok, c.nearest, true)
		expect(t, c.name+": shortfall", least, ok, c.least, true)
	}
}

func TestSubstitutes(t *testing.T) {
	random := rand.New(rand.NewSource(64))
	for _, p := range samplePools(64, 600) {
		for _, panel := range panelsIn(p) {
			if random.Intn(3) > 0 {
				continue
			}
			for place, member := range panel {
				var want []int64
				for person := range p.People {
					changed := slices.Clone(panel)
					changed[place] = person
					if !slices.Contains(panel, person) && missedBy(p, changed) == 0 {
						want = append(want, person)
					}
				}
				got, ok := impl.SubstitutesFor(p, panel, member)
				expectList(t, fmt.Sprintf("SubstitutesFor %q, %v, %d", poolText(p), panel, member), got, ok, want, true)
			}
		}
	}
}

func TestSubstitutesCases(t *testing.T) {
	for _, c := range []struct {
		name, text  string
		panel       []int64
		member      int64
		substitutes []int64
		ok          bool
	}{
		{"the document's example", "4/2;0,1=1..1", []int64{0, 2}, 0, []int64{1}, true},
		{"the other member", "4/2;0,1=1..1", []int64{0, 2}, 2, []int64{3}, true},
		{"no quota", "7/1", []int64{3}, 3, []int64{0, 1, 2, 4, 5, 6}, true},
		{"none who is outside", "3/3", []int64{0, 1, 2}, 1, nil, true},
		{"none who meets the quotas", "3/2;0=1..1", []int64{0, 1}, 0, nil, true},
		{"a lesser one and a greater one", "4/2;0,1,3=1..1", []int64{1, 2}, 1, []int64{0, 3}, true},
		{"not in the panel", "4/2;0,1=1..1", []int64{0, 2}, 1, nil, false},
		{"no person", "4/2;0,1=1..1", []int64{0, 2}, 4, nil, false},
		{"a negative number", "4/2;0,1=1..1", []int64{0, 2}, -1, nil, false},
		{"a set that misses a quota", "4/2;0,1=1..1", []int64{0, 1}, 0, nil, false},
		{"too few people", "4/2", []int64{0}, 0, nil, false},
		{"too many people", "4/2", []int64{0, 1, 2}, 0, nil, false},
		{"no set", "4/2", []int64{1, 0}, 0, nil, false},
		{"one person twice", "4/2", []int64{1, 1}, 1, nil, false},
		{"a number beyond", "4/2", []int64{1, 4}, 4, nil, false},
		{"a number beyond, and another member", "4/2", []int64{1, 4}, 1, nil, false},
		{"no list", "4/2", nil, 0, nil, false},
		{"no pool", "4/5", []int64{0, 1}, 0, nil, false},
	} {
		got, ok := impl.SubstitutesFor(pool(c.text), c.panel, c.member)
		expectList(t, c.name, got, ok, c.substitutes, c.ok)
	}
}

func TestPanelsInvalid(t *testing.T) {
	for name, p := range invalidPools() {
		panels, ok := impl.PanelsOf(p)
		expect(t, "PanelsOf "+name, len(panels), ok, 0, false)
		nearest, least, ok := impl.NearestPanel(p)
		expectList(t, "NearestPanel of "+name, nearest, ok, nil, false)
		expect(t, "shortfall of NearestPanel of "+name, least, ok, 0, false)
		for _, set := range [][]int64{nil, {0}, {0, 1}, {0, 1, 2}, {0, 1, 2, 3, 4, 5, 6}, {0, 1, 2, 3, 4, 5, 6, 7}} {
			missed, ok := impl.ShortfallOf(p, set)
			expect(t, "ShortfallOf "+name, missed, ok, 0, false)
			if impl.IsPanel(p, set) {
				t.Errorf("IsPanel of %s, %v is true", name, set)
			}
			substitutes, ok := impl.SubstitutesFor(p, set, 0)
			expectList(t, "SubstitutesFor "+name, substitutes, ok, nil, false)
		}
	}
}
