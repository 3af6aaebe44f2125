package tests

import (
	"fmt"
	"maps"
	"math"
	"math/rand"
	"regexp"
	"slices"
	"strconv"
	"strings"

	"loop.example/g01095/impl"
)

// lines splits a text in which semicolons stand for newlines.
func lines(text string) []string {
	return strings.FieldsFunc(text, func(r rune) bool { return r == ';' })
}

// integer reads a number without the bounds of the document.
func integer(word string) int64 {
	n, err := strconv.ParseInt(word, 10, 64)
	if err != nil {
		panic(err)
	}
	return n
}

// statute writes a statute as its text does, with semicolons between the lines and without the bounds of the document.
func statute(text string) []impl.Article {
	var s []impl.Article
	for _, line := range lines(text) {
		id, words, _ := strings.Cut(line, " ")
		s = append(s, impl.Article{Id: integer(id), Text: words})
	}
	return s
}

// patch writes a patch as its text does, with semicolons between the lines and without the bounds of the document.
func patch(text string) []impl.Edit {
	var p []impl.Edit
	for _, line := range lines(text) {
		id, words, _ := strings.Cut(line[1:], " ")
		edit := impl.Edit{Id: integer(id)}
		switch line[0] {
		case '+':
			edit.Kind, edit.New = impl.EditAdd, words
		case '-':
			edit.Kind, edit.Old = impl.EditDrop, words
		case '~':
			edit.Kind = impl.EditChange
			edit.Old, edit.New, _ = strings.Cut(words, "|")
		}
		p = append(p, edit)
	}
	return p
}

// statuteText is the text of a statute, as the document describes it.
func statuteText(s []impl.Article) string {
	text := ""
	for _, article := range s {
		text += fmt.Sprintf("%d %s\n", article.Id, article.Text)
	}
	return text
}

// patchText is the text of a patch, as the document describes it.
func patchText(p []impl.Edit) string {
	text := ""
	for _, e := range p {
		switch e.Kind {
		case impl.EditAdd:
			text += fmt.Sprintf("+%d %s\n", e.Id, e.New)
		case impl.EditDrop:
			text += fmt.Sprintf("-%d %s\n", e.Id, e.Old)
		case impl.EditChange:
			text += fmt.Sprintf("~%d %s|%s\n", e.Id, e.Old, e.New)
		}
	}
	return text
}

// brief writes a text as the notation of these tests.
func brief(text string) string { return strings.TrimSuffix(strings.ReplaceAll(text, "\n", ";"), ";") }

func samePatch(p, q []impl.Edit) bool { return slices.Equal(p, q) }

var sentence = regexp.MustCompile(`\A[a-z0-9]([a-z0-9 ]{0,22}[a-z0-9])?\z`)

// fitsIn reports whether an edit fits a statute.
func fitsIn(s []impl.Article, e impl.Edit) bool {
	i := slices.IndexFunc(s, func(a impl.Article) bool { return a.Id == e.Id })
	if e.Kind == impl.EditAdd {
		return i < 0
	}
	return i >= 0 && s[i].Text == e.Old
}

// applyIn applies a patch as the document describes it.
func applyIn(s []impl.Article, p []impl.Edit) ([]impl.Article, bool) {
	texts := map[int64]string{}
	for _, article := range s {
		texts[article.Id] = article.Text
	}
	for _, e := range p {
		if !fitsIn(s, e) {
			return nil, false
		}
		if e.Kind == impl.EditDrop {
			delete(texts, e.Id)
		} else {
			texts[e.Id] = e.New
		}
	}
	if len(texts) > impl.MaxArticles {
		return nil, false
	}
	var after []impl.Article
	for _, id := range slices.Sorted(maps.Keys(texts)) {
		after = append(after, impl.Article{Id: id, Text: texts[id]})
	}
	return after, true
}

// editAt returns the edit of a patch with an Id, and false if there is none.
func editAt(p []impl.Edit, id int64) (impl.Edit, bool) {
	for _, e := range p {
		if e.Id == id {
			return e, true
		}
	}
	return impl.Edit{}, false
}

// atBoth goes through the Ids of two patches, and returns the edits that one of them has alone and those that join returns for
// Ids that both have. It returns false if join does, or if there are too many edits.
func atBoth(p, q []impl.Edit, join func(x, y impl.Edit) ([]impl.Edit, bool)) ([]impl.Edit, bool) {
	var edits []impl.Edit
	for id := range int64(impl.MaxId + 1) {
		x, hasX := editAt(p, id)
		y, hasY := editAt(q, id)
		switch {
		case hasX && hasY:
			joined, ok := join(x, y)
			if !ok {
				return nil, false
			}
			edits = append(edits, joined...)
		case hasX:
			edits = append(edits, x)
		case hasY:
			edits = append(edits, y)
		}
	}
	if len(edits) > impl.MaxEdits {
		return nil, false
	}
	return edits, true
}

// inOneStep returns the edit that does what x and then y do, if any, for two edits with one Id. It returns false if y does not fit
// what x has left.
func inOneStep(x, y impl.Edit) ([]impl.Edit, bool) {
	add, drop, change := int64(impl.EditAdd), int64(impl.EditDrop), int64(impl.EditChange)
	if fits := y.Kind != add && y.Old == x.New; x.Kind == drop && y.Kind != add || x.Kind != drop && !fits {
		return nil, false
	}
	switch [2]int64{x.Kind, y.Kind} {
	case [2]int64{add, drop}:
		return nil, true
	case [2]int64{add, change}:
		return []impl.Edit{{Kind: add, Id: x.Id, New: y.New}}, true
	case [2]int64{change, drop}:
		return []impl.Edit{{Kind: drop, Id: x.Id, Old: x.Old}}, true
	}
	if x.Old == y.New {
		return nil, true
	}
	return []impl.Edit{{Kind: change, Id: x.Id, Old: x.Old, New: y.New}}, true
}

// onlyEqual joins two edits that are equal.
func onlyEqual(x, y impl.Edit) ([]impl.Edit, bool) { return []impl.Edit{x}, x == y }

// conflictsIn returns the Ids at which both patches have edits that differ.
func conflictsIn(p, q []impl.Edit) []int64 {
	var ids []int64
	for id := range int64(impl.MaxId + 1) {
		x, hasX := editAt(p, id)
		if y, hasY := editAt(q, id); hasX && hasY && x != y {
			ids = append(ids, id)
		}
	}
	return ids
}

// inverseIn takes each edit back.
func inverseIn(p []impl.Edit) []impl.Edit {
	var back []impl.Edit
	for _, e := range p {
		kind := map[int64]int64{impl.EditAdd: impl.EditDrop, impl.EditDrop: impl.EditAdd, impl.EditChange: impl.EditChange}[e.Kind]
		back = append(back, impl.Edit{Kind: kind, Id: e.Id, Old: e.New, New: e.Old})
	}
	return back
}

// smallStatutes returns all statutes with some Ids and texts.
func smallStatutes(ids []int64, texts ...string) [][]impl.Article {
	all := [][]impl.Article{nil}
	for _, id := range ids {
		for _, s := range slices.Clone(all) {
			for _, text := range texts {
				all = append(all, append(slices.Clone(s), impl.Article{Id: id, Text: text}))
			}
		}
	}
	return all
}

// smallEdits returns all edits with an Id and some texts.
func smallEdits(id int64, texts ...string) []impl.Edit {
	var all []impl.Edit
	for _, old := range texts {
		all = append(all, impl.Edit{Kind: impl.EditAdd, Id: id, New: old}, impl.Edit{Kind: impl.EditDrop, Id: id, Old: old})
		for _, changed := range texts {
			if changed != old {
				all = append(all, impl.Edit{Kind: impl.EditChange, Id: id, Old: old, New: changed})
			}
		}
	}
	return all
}

// smallPatches returns all patches with some Ids and texts.
func smallPatches(ids []int64, texts ...string) [][]impl.Edit {
	all := [][]impl.Edit{nil}
	for _, id := range ids {
		for _, p := range slices.Clone(all) {
			for _, e := range smallEdits(id, texts...) {
				all = append(all, append(slices.Clone(p), e))
			}
		}
	}
	return all
}

// randomIds returns a set of so many Ids, which are close together or not.
func randomIds(random *rand.Rand, count int) []int64 {
	most := []int{count, max(count, 10), max(count, 20), impl.MaxId}[random.Intn(4)]
	ids := randomSet(random, int64(most), int64(count))
	for i := range ids {
		ids[i]++
	}
	return ids
}

// randomText returns one of few sentences, or rarely another one.
func randomText(random *rand.Rand) string {
	if random.Intn(8) > 0 {
		return string(rune('a' + random.Intn(3)))
	}
	list := sentences()
	return list[random.Intn(len(list))]
}

func randomStatute(random *rand.Rand) []impl.Article {
	var s []impl.Article
	for _, id := range randomIds(random, random.Intn(impl.MaxArticles+1)) {
		s = append(s, impl.Article{Id: id, Text: randomText(random)})
	}
	return s
}

// randomPatch returns a patch with few or many edits, at Ids of a statute and at others.
func randomPatch(random *rand.Rand, s []impl.Article) []impl.Edit {
	most := []int{2, impl.MaxEdits}[random.Intn(2)]
	ids := randomIds(random, random.Intn(most+1))
	for _, article := range s {
		if len(ids) < impl.MaxEdits && random.Intn(2) == 0 {
			ids = append(ids, article.Id)
		}
	}
	slices.Sort(ids)
	return patchAt(random, slices.Compact(ids), s)
}

// patchAt returns a patch with some Ids, nearly all of whose edits fit a statute.
func patchAt(random *rand.Rand, ids []int64, s []impl.Article) []impl.Edit {
	var p []impl.Edit
	for _, id := range ids {
		texts := []string{"a", "b", randomText(random)}
		for _, article := range s {
			texts = append(texts, article.Text)
		}
		fitting := slices.DeleteFunc(smallEdits(id, texts...), func(e impl.Edit) bool { return !fitsIn(s, e) })
		if random.Intn(20) == 0 {
			fitting = smallEdits(id, texts...)
		}
		p = append(p, fitting[random.Intn(len(fitting))])
	}
	return p
}

// invalidStatutes are lists that break one bound each.
func invalidStatutes() map[string][]impl.Article {
	list := map[string][]impl.Article{}
	for _, text := range []string{
		"0 a", "100 a", "-1 a", "0 a;1 b", "1 a;100 b", "99 a;100 b", "1 a;1 a", "1 a;1 b", "2 a;1 b", "1 a;3 b;2 c", "1 a;2 b;2 b", "1 a;2 b;1 c",
		"1 a;2 b;3 c;4 d;5 e;6 f;7 g;8 h;9 i", fmt.Sprint(math.MaxInt64, " a"), fmt.Sprint(math.MinInt64, " a"), "4294967297 a", "1 a;4294967298 b", "1", "1 a;2", "1 A", "1 a;2 b;3 c|",
	} {
		list[text] = statute(text)
	}
	for _, text := range notSentences() {
		list[fmt.Sprintf("the text %q", text)] = []impl.Article{{Id: 1, Text: text}}
		list[fmt.Sprintf("the second text %q", text)] = []impl.Article{{Id: 1, Text: "a"}, {Id: 2, Text: text}}
	}
	return list
}

// sentences are some with few or many bytes, and with blanks inside.
func sentences() []string {
	return []string{"a", "z", "0", "9", "m", "5", "ab", "a b", "a  b", "0 0", "dogs are free", "a b c d e f", strings.Repeat("a", impl.MaxText-1), strings.Repeat("z", impl.MaxText), "9" + strings.Repeat(" ", impl.MaxText-2) + "9"}
}

// notSentences are texts that break one bound each.
func notSentences() []string {
	return []string{
		"", " ", "  ", " a", "a ", " a ", "  a", "a  ", strings.Repeat("a", impl.MaxText+1), strings.Repeat("a ", impl.MaxText/2) + "a", strings.Repeat("a", impl.MaxText) + " ", " " + strings.Repeat("a", impl.MaxText),
		strings.Repeat(" ", impl.MaxText), "A", "aB", "Z", "`", "{", "/", ":", "a|b", "|", "a\n", "\na", "a\nb", "a\tb", "\ta", "a\t", "a\r", "\x00", "a\x00b", "\x7f", "\x80", "\xff", "a\xe4b", "ä", "aäb", "а", "１", "a\u00a0b", "a\u2003", "-", "+a", "~", "a,b", "a;b", "a.b", "a_b",
	}
}

// invalidPatches are lists that break one bound each.
func invalidPatches() map[string][]impl.Edit {
	list := map[string][]impl.Edit{
		"the Kind 0":               {{Id: 1, New: "a"}},
		"the Kind 4":               {{Kind: 4, Id: 1, New: "a"}},
		"the Kind 4 and both":      {{Kind: 4, Id: 1, Old: "a", New: "b"}},
		"the Kind -1":              {{Kind: -1, Id: 1, Old: "a"}},
		"the greatest Kind":        {{Kind: math.MaxInt64, Id: 1, Old: "a", New: "b"}},
		"the least Kind":           {{Kind: math.MinInt64, Id: 1, Old: "a", New: "b"}},
		"no fields":                {{}},
		"adding with Old":          {{Kind: impl.EditAdd, Id: 1, Old: "a", New: "b"}},
		"adding with the same Old": {{Kind: impl.EditAdd, Id: 1, Old: "a", New: "a"}},
		"adding Old":               {{Kind: impl.EditAdd, Id: 1, Old: "a"}},
		"adding with a blank Old":  {{Kind: impl.EditAdd, Id: 1, Old: " ", New: "a"}},
		"adding nothing":           {{Kind: impl.EditAdd, Id: 1}},
		"dropping with New":        {{Kind: impl.EditDrop, Id: 1, Old: "a", New: "b"}},
		"dropping New":             {{Kind: impl.EditDrop, Id: 1, New: "a"}},
		"dropping with a blank":    {{Kind: impl.EditDrop, Id: 1, Old: "a", New: " "}},
		"dropping nothing":         {{Kind: impl.EditDrop, Id: 1}},
		"changing nothing":         {{Kind: impl.EditChange, Id: 1}},
		"changing from nothing":    {{Kind: impl.EditChange, Id: 1, New: "a"}},
		"changing to nothing":      {{Kind: impl.EditChange, Id: 1, Old: "a"}},
		"changing to the same":     {{Kind: impl.EditChange, Id: 1, Old: "a", New: "a"}},
		"changing to the same too": {{Kind: impl.EditChange, Id: 1, Old: "a", New: "b"}, {Kind: impl.EditChange, Id: 2, Old: "a b", New: "a b"}},
	}
	for _, text := range []string{
		"+0 a", "+100 a", "+-1 a", "-0 a", "-100 a", "~0 a|b", "~100 a|b", "+0 a;+1 a", "+1 a;-100 a", "+1 a;+1 a", "+1 a;-1 a", "-1 a;+1 b", "-2 a;+1 a", "+1 a;~3 a|b;-2 a", "+1 a;+4294967298 a",
		fmt.Sprint("+", math.MaxInt64, " a"), fmt.Sprint("-", math.MinInt64, " a"), brief(patchText(addAll(1, impl.MaxEdits+1))),
	} {
		list[text] = patch(text)
	}
	for _, text := range notSentences() {
		if text == "" {
			continue
		}
		list[fmt.Sprintf("adding %q", text)] = []impl.Edit{{Kind: impl.EditAdd, Id: 1, New: text}}
		list[fmt.Sprintf("dropping %q", text)] = []impl.Edit{{Kind: impl.EditAdd, Id: 1, New: "a"}, {Kind: impl.EditDrop, Id: 2, Old: text}}
		list[fmt.Sprintf("changing %q", text)] = []impl.Edit{{Kind: impl.EditChange, Id: 1, Old: text, New: "a"}}
		list[fmt.Sprintf("changing to %q", text)] = []impl.Edit{{Kind: impl.EditChange, Id: 1, Old: "a", New: text}}
	}
	return list
}

// addAll returns the patch that adds articles with so many Ids from a first one on.
func addAll(first int64, count int) []impl.Edit {
	var p []impl.Edit
	for i := range count {
		p = append(p, impl.Edit{Kind: impl.EditAdd, Id: first + int64(i), New: "a"})
	}
	return p
}
