package archive

import (
	"strconv"
	"strings"

	"ductility/api"
)

// nowhere is the answer where there is no space, or no open run.
const nowhere = "-"

// question is the kinds of words behind the first one, and what answers it for the specimen that they name.
type question struct {
	kinds  string
	answer func(d *desk, specimen int) string
}

// questions returns all questions by their first words.
func questions() map[string]question {
	return map[string]question{
		"specimens": {"", (*desk).answerSpecimens},
		"specimen":  {"s", (*desk).answerSpecimen},
		"machine":   {"", (*desk).answerMachine},
		"open":      {"", (*desk).answerOpen},
		"seals":     {"s", (*desk).answerSeals},
	}
}

// numbers returns numbers with single blanks between them.
func numbers(l ...int) string {
	return strings.Join(stringsOf(l, strconv.Itoa), " ")
}

// answerSpecimens returns the names of all specimens.
func (d *desk) answerSpecimens(int) string {
	return strings.Join(stringsOf(d.Specimens, specimenName), " ")
}

// answerSpecimen returns the space of a specimen, from when on it is ready, its level, and how many of its runs are done.
func (d *desk) answerSpecimen(specimen int) string {
	s := d.Specimens[specimen]
	space := nowhere
	if s.Space != api.ArchiveNowhere {
		space = strconv.Itoa(s.Space)
	}
	return space + " " + numbers(s.Ready, d.level(specimen), len(d.done(specimen)))
}

// answerMachine returns the state of the machine.
func (d *desk) answerMachine(int) string { return strconv.Itoa(d.ArchiveState.Machine) }

// answerOpen returns the specimen whose run is open, and the level of this run.
func (d *desk) answerOpen(int) string {
	run := d.openRun()
	if run == nil {
		return nowhere
	}
	return d.Specimens[d.Open].Name + " " + strconv.Itoa(run.Level)
}

// answerSeals returns how many seals a specimen has, and how many are opened.
func (d *desk) answerSeals(specimen int) string {
	count := d.sealsOf(specimen)
	return numbers(count.All, count.Some)
}

// Answer returns the answer to a question.
func Answer(n api.ArchiveNet, l []api.ArchiveEntry, question string) (string, api.Errno) {
	d, e := deskOf(n, l)
	if e != api.OK {
		return "", e
	}
	q, isQuestion := questions()[firstWord(question)]
	asked, e := wordsOf(question, q.kinds)
	specimen, missing := d.named(asked)
	if e = firstOf(when(!isQuestion, api.ErrSyntax), e, missing); e != api.OK {
		return "", e
	}
	return q.answer(d, specimen), api.OK
}
