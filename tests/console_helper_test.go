package tests

import (
	"fmt"
	"math/rand"
	"regexp"
	"slices"
	"strings"
	"testing"

	"loop.example/g01095/impl"
)

// joined writes numbers with a separator.
func joined(list []int64, separator string) string {
	return strings.Trim(strings.ReplaceAll(fmt.Sprint(list), " ", separator), "[]")
}

// deedText is the text of a deed, as the document describes it.
func deedText(d impl.Deed) string {
	switch d.Kind {
	case impl.DeedTrust:
		if len(d.Trust) == 0 {
			return fmt.Sprint("trust ", d.Member)
		}
		return fmt.Sprint("trust ", d.Member, " ", joined(d.Trust, ","))
	case impl.DeedVote:
		words := map[int64]string{impl.VoteNone: "none", impl.VoteYes: "yes", impl.VoteNo: "no", impl.VoteBlank: "blank"}
		return fmt.Sprint("vote ", d.Member, " ", d.Title, " ", words[d.Vote])
	case impl.DeedPropose:
		edits := strings.ReplaceAll(patchText(d.Patch), "\n", ";")
		return fmt.Sprint("propose ", d.Member, " ", d.Title, " ", d.Closes, " ", d.From, " ", d.Until, " ", edits)
	}
	return "next"
}

const plainNumber = `(?:0|-?[1-9][0-9]{0,8})`

var (
	trustWords   = regexp.MustCompile(`\Atrust ` + plainNumber + `(?: ` + plainNumber + `(?:,` + plainNumber + `)*)?\z`)
	voteWords    = regexp.MustCompile(`\Avote ` + plainNumber + ` [a-z]+ (?:none|yes|no|blank)\z`)
	proposeWords = regexp.MustCompile(`\Apropose ` + plainNumber + ` [a-z]+ ` + plainNumber + ` ` + plainNumber + ` ` + plainNumber + ` ((?:[^;\n]+;)+)\z`)
	titleWords   = regexp.MustCompile(`\A(count|verdict|leaders) ([^ ]+)\z`)
	pathWords    = regexp.MustCompile(`\Apath (` + plainNumber + `) ([^ ]+)\z`)
)

// isTextOfADeed looks at the form of a text and then at the deed that has this form.
func isTextOfADeed(text string) bool {
	if parts := proposeWords.FindStringSubmatch(text); parts != nil {
		return areLines(strings.ReplaceAll(parts[1], ";", "\n"), impl.MaxEdits, idOfEdit) && isDeedIn(deed(text))
	}
	return text == "next" || (trustWords.MatchString(text) || voteWords.MatchString(text)) && isDeedIn(deed(text))
}

func sameDeed(a, b impl.Deed) bool { return fmt.Sprintf("%+v", a) == fmt.Sprintf("%+v", b) }

func sameDeeds(a, b []impl.Deed) bool { return slices.EqualFunc(a, b, sameDeed) }

// expectDeed is expect for deeds.
func expectDeed(t *testing.T, what string, got impl.Deed, ok bool, want impl.Deed, wantOK bool) {
	t.Helper()
	if !sameDeed(got, want) || ok != wantOK {
		t.Errorf("%s: got %+v, %v, want %+v, %v", what, got, ok, want, wantOK)
	}
}

// expectDeeds is expect for lists of deeds.
func expectDeeds(t *testing.T, what string, got []impl.Deed, ok bool, want []impl.Deed, wantOK bool) {
	t.Helper()
	if !sameDeeds(got, want) || ok != wantOK {
		t.Errorf("%s: got %+v, %v, want %+v, %v", what, got, ok, want, wantOK)
	}
}

// checkIn is the check number of a line with a text, behind a line with another check number.
func checkIn(before int, text string) int {
	sum := 31 * before
	for i := range len(text) {
		sum += (i + 1) * int(text[i])
	}
	return sum % 9973
}

// journalLines are the lines of the journal of deeds, which need not be valid.
func journalLines(texts ...string) []string {
	var list []string
	check := 7
	for _, text := range texts {
		check = checkIn(check, text)
		list = append(list, fmt.Sprint(check, " ", text, "\n"))
	}
	return list
}

// journal is that of the deeds with some texts.
func journal(texts ...string) string { return strings.Join(journalLines(texts...), "") }

func journalOf(list []impl.Deed) string {
	var texts []string
	for _, d := range list {
		texts = append(texts, deedText(d))
	}
	return journal(texts...)
}

// recoveredIn returns the deeds at the beginning of a text, line by line.
func recoveredIn(t string) ([]impl.Deed, int64) {
	var list []impl.Deed
	length, check := 0, 7
	for len(list) < impl.MaxDeeds {
		line, _, isEnded := strings.Cut(t[length:], "\n")
		number, text, _ := strings.Cut(line, " ")
		check = checkIn(check, text)
		if !isEnded || !isTextOfADeed(text) || number != fmt.Sprint(check) {
			break
		}
		list = append(list, deed(text))
		length += len(line) + 1
	}
	return list, int64(length)
}

// deskIn does what a desk does.
type deskIn struct {
	start, state impl.Assembly
	deeds        []impl.Deed
}

func newDesk(start impl.Assembly, list []impl.Deed) *deskIn {
	state, _ := doneAll(start, list)
	return &deskIn{start, state, list}
}

// desk returns the desk with an assembly and deeds that can be done in it.
func (d *deskIn) desk() impl.Desk { return impl.Desk{Start: d.start, Journal: journalOf(d.deeds)} }

// execute goes through the rows of the table.
func (d *deskIn) execute(line string) []string {
	switch {
	case isTextOfADeed(line):
		return d.do(deed(line))
	case line == "undo" && len(d.deeds) == 0:
		return []string{"no"}
	case line == "undo":
		*d = *newDesk(d.start, d.deeds[:len(d.deeds)-1])
		return []string{"ok"}
	case line == "deeds":
		return []string{fmt.Sprint(len(d.deeds))}
	case line == "text":
		if text := textIn(d.state.Base, d.state.Acts, d.state.Day).text; len(text) > 0 {
			return strings.Split(strings.TrimSuffix(statuteText(text), "\n"), "\n")
		}
		return []string{"empty"}
	}
	words, member := titleWords.FindStringSubmatch(line), int64(0)
	if parts := pathWords.FindStringSubmatch(line); parts != nil {
		words, member = []string{line, "path", parts[2]}, integer(parts[1])
	}
	if words == nil {
		return []string{"what"}
	}
	for _, m := range d.state.Motions {
		if m.Title == words[2] {
			return []string{d.answer(m, words[1], member)}
		}
	}
	return []string{"no"}
}

func (d *deskIn) do(done impl.Deed) []string {
	after, ok := doneIn(d.state, done)
	if !ok || len(d.deeds) == impl.MaxDeeds {
		return []string{"no"}
	}
	d.deeds, d.state = append(slices.Clip(d.deeds), done), after
	if done.Kind != impl.DeedNext {
		return []string{"ok"}
	}
	output := []string{fmt.Sprint("day ", after.Day)}
	for _, m := range after.Motions {
		if m.Closes == after.Day {
			output = append(output, m.Title+" "+resultIn(m.Result))
		}
	}
	return output
}

func resultIn(result int64) string {
	return map[int64]string{impl.MotionAdopted: "adopted", impl.MotionRejected: "rejected", impl.MotionVoid: "void", impl.MotionBroken: "broken"}[result]
}

// answer tells what is asked for of a motion.
func (d *deskIn) answer(m impl.Motion, word string, member int64) string {
	switch word {
	case "count":
		return joined(ballotsIn(d.state, m.Votes), " ")
	case "verdict":
		if m.Result == impl.MotionOpen {
			return resultIn(verdictIn(d.state, m, m.Votes))
		}
		return resultIn(m.Result)
	case "leaders":
		if leaders := leadersIn(d.state, m.Votes); len(leaders) > 0 {
			return joined(leaders, " ")
		}
		return "none"
	}
	if member < 0 || member >= int64(len(m.Votes)) {
		return "no"
	}
	if path := bestWalk(voicesIn(d.state, m.Votes), d.state.Rule, member); path != nil {
		return joined(path, " ")
	}
	return "no"
}

// checkCommand executes a line at a desk and compares everything with what the document says, and returns the output.
func checkCommand(t *testing.T, d *deskIn, line string) []string {
	t.Helper()
	before := d.desk()
	what := fmt.Sprintf("the line %q at %+v", line, before)
	want := d.execute(line)
	after, output, ok := impl.DeskCommand(before, line)
	expectList(t, what, output, ok, want, true)
	if after.Journal != d.desk().Journal || assemblyText(after.Start) != assemblyText(d.start) {
		t.Errorf("%s: got the desk %+v, want %+v", what, after, d.desk())
	}
	if refused := slices.Equal(want, []string{"no"}) || slices.Equal(want, []string{"what"}); refused && after.Journal != before.Journal {
		t.Errorf("%s: it is refused and changes the journal to %q", what, after.Journal)
	}
	return want
}

// randomLine returns a deed that can nearly always be done, another command, or now and then a line that is nearly one.
func randomLine(random *rand.Rand, a impl.Assembly) string {
	title := titles()[random.Intn(len(titles()))]
	if len(a.Motions) > 0 && random.Intn(6) > 0 {
		title = a.Motions[random.Intn(len(a.Motions))].Title
	}
	member := random.Intn(len(a.Trust)+2) - 1
	list := []string{"undo", "deeds", "text", "next", "count " + title, "verdict " + title, "leaders " + title, fmt.Sprint("path ", member, " ", title)}
	line := list[random.Intn(len(list))]
	if random.Intn(8) > 0 {
		line = deedText(randomDeed(random, a))
		if random.Intn(2) == 0 {
			line = list[4+random.Intn(4)]
		}
	}
	if random.Intn(12) == 0 {
		at := random.Intn(len(line) + 1)
		line = line[:at] + []string{" ", "0", "x", ",", ";", "\t", "\xff", "ä"}[random.Intn(8)] + line[min(len(line), at+random.Intn(2)):]
	}
	return line
}
