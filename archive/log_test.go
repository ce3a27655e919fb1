package archive_test

import (
	"math"
	"slices"
	"strconv"
	"strings"
	"testing"

	"ductility/api"
	"ductility/archive"
)

// P10.2, examples 2 and 3: the state of the log of the examples.
func TestExampleState(t *testing.T) {
	want := api.ArchiveState{
		Specimens: []api.ArchiveSpecimen{{
			Name: "wall", Ready: 6, Space: 0,
			Signs: []api.SafetySign{{Gate: 0, Person: "ann", Role: "chief"}},
			Seals: []api.ArchiveSeal{{By: "zoe", Sum: 98}},
		}},
		Machine: 1, Open: api.ArchiveNowhere,
	}
	s, e := archive.StateOf(exampleNet(), exampleLog())
	mustBe(t, "state", s, e, want, api.OK)
	for _, y := range []struct {
		entry string
		want  api.Errno
	}{
		{"6 bob begin wall 1 " + small, api.OK},
		{"5 bob begin wall 1 " + small, api.ErrOpen},
		{"6 bob begin wall 2 " + small, api.ErrRefused},
	} {
		mustBe(t, y.entry, 0, archive.MayAppend(exampleNet(), exampleLog(), entry(y.entry)), 0, y.want)
	}
	done := doneLog()
	want.Specimens[0].Runs = []api.ArchiveRun{{
		Level: 1, Motion: api.MotionRecord{Step: 10, Samples: []int{1, -2, 1}}, Channels: []int{0}, Raws: [][]int{{3, -4}},
		Decays: true, Decay: api.ModalDecay{Samples: []int{-5, 5, -5, 5}},
	}}
	s, e = archive.StateOf(exampleNet(), done)
	mustBe(t, "done", s, e, want, api.OK)
	mustBe(t, "opened with b", 0, archive.MayAppend(exampleNet(), done, entry("9 zoe open wall b")), 0, api.ErrProof)
	want.Specimens[0].Seals[0] = api.ArchiveSeal{By: "zoe", Sum: 98, Opened: true, Text: "a"}
	s, e = archive.StateOf(exampleNet(), longer(done, "9 zoe open wall a"))
	mustBe(t, "opened", s, e, want, api.OK)
}

// P10.2, edge case: an empty log has no specimens, and the machine is as it begins.
func TestEmptyLog(t *testing.T) {
	for _, l := range [][]api.ArchiveEntry{nil, {}} {
		index, e := archive.CheckLog(exampleNet(), l)
		mustBe(t, "empty", index, e, 0, api.OK)
		for _, begin := range []int{0, 1, 3} {
			s, e := archive.StateOf(with(exampleNet(), func(n *api.ArchiveNet) { n.Begin = begin }), l)
			mustBe(t, "empty", s, e, api.ArchiveState{Machine: begin, Open: api.ArchiveNowhere}, api.OK)
		}
	}
}

// malformed lists texts that are none of the texts.
func malformed() []string {
	l := []string{
		"", " ", "  ", "n", "not", "notes x", "Note x", "NOTE x", " note x", "\tnote x", "note\tx", "note", "note a\nb", "note \n", "note a\n", "\nnote a", "\n",
		"specimen", "specimen ", "specimen wall", "specimen wall ", "specimen  5", "specimen wall  5", "specimen wall 5 ", "specimen wall 5 6", " specimen wall 5", "specimen  wall 5",
		"specimen wall\n 5", "specimen wall 5\n", "specimens wall 5",
		"put", "put ", "put wall", "put wall ", "put  0", "put wall 0 ", "put wall 0 1", "put wall  0",
		"clear", "clear ", "clear  ", "clear wall ", "clear wall wall", "clear  wall", "clear wall\n",
		"sign", "sign ", "sign wall", "sign wall ", "sign  low", "sign wall  low", "sign wall low ", "sign wall low chief",
		"action", "action ", "action  ", "action turn ", "action turn turn", "action  turn",
		"seal", "seal wall", "seal wall ", "seal wall 98 ", "seal wall a", "seal  98", "seal wall 98 a",
		"open", "open ", "open wall", "open  a", "open  ", "open wall a\nb",
		"begin", "begin ", "begin wall", "begin wall ", "begin wall 1", "begin wall  ", "begin wall  " + small, "begin  1 " + small, "begin wall x " + small, "begin wall " + small, "begin wall 1 10;1 -2\n1",
		"record", "record ", "record acc", "record  1", "record  ", "record acc 1\n2", "decay", "decay\n", "decay 0;-5\n5",
		"end ", " end", "end end", "end\n", "ended", "End",
	}
	for _, number := range badNumbers() {
		l = append(l, "specimen wall "+number, "put wall "+number, "seal wall "+number, "begin wall "+number+" "+small)
	}
	return l
}

// badNumbers lists words that are no numbers of texts.
func badNumbers() []string {
	return []string{"", "-1", "-0", "+1", "00", "01", "000001", "1000000", "0000000", "9999999", "1.0", "1e3", "0x1", "1,0", "one", "1a", "a1", "\u0661", "\uff11", "1\t", "\x00", "99999999999999999999"}
}

// P10.2: texts that are none have this error, whoever makes them, before all others.
func TestMalformedTexts(t *testing.T) {
	for _, text := range malformed() {
		for _, by := range []string{"ann", "bob", "zoe"} {
			for _, l := range [][]api.ArchiveEntry{nil, wideLog()} {
				x := api.ArchiveEntry{At: 9, By: by, Text: text}
				mustBe(t, text, 0, archive.MayAppend(wideNet(), l, x), 0, api.ErrSyntax)
				index, e := archive.CheckLog(wideNet(), slices.Concat(l, []api.ArchiveEntry{x, {At: -1}}))
				mustBe(t, text, index, e, len(l), api.ErrSyntax)
			}
		}
	}
}

// Words may have any bytes but blanks and line feeds: such texts have their words' errors, and the rest of a text may be anything.
func TestStrangeTexts(t *testing.T) {
	for _, word := range append(badWords(), "a/b", "98", "\r", "\u00a0") {
		for text, want := range map[string]api.Errno{
			"specimen " + word + " 999999":      api.ErrName,
			"put " + word + " 999999":           api.ErrMissing,
			"clear " + word:                     api.ErrMissing,
			"sign " + word + " low":             api.ErrMissing,
			"sign wall " + word:                 api.ErrMissing,
			"action " + word:                    api.ErrMissing,
			"seal " + word + " 0":               api.ErrMissing,
			"open " + word + " a":               api.ErrMissing,
			"open " + word + " ":                api.ErrMissing,
			"begin " + word + " 0 ":             api.ErrMissing,
			"record " + word + " ":              api.ErrNone,
			"decay " + word:                     api.ErrNone,
			"note " + word:                      api.OK,
			"note  " + word + "  " + word + " ": api.OK,
		} {
			mustBe(t, text, 0, archive.MayAppend(wideNet(), wideLog(), api.ArchiveEntry{At: 9, By: "ann", Text: text}), 0, want)
		}
	}
	for _, text := range []string{"note ", "note  ", "note note", "note end", "note \x00\xff\t\r", "note " + strings.Repeat(" ", 195), "note " + strings.Repeat("x", 195)} {
		l := []api.ArchiveEntry{{At: 0, By: "zoe", Text: text}}
		s := stateAfter(t, exampleNet(), l)
		mustStay(t, "state", s, api.ArchiveState{Open: api.ArchiveNowhere})
	}
}

// badEntry is an entry that has an error behind a log.
type badEntry struct {
	x    api.ArchiveEntry
	want api.Errno
}

// badEntries lists all errors of entries behind the tick 5 but those of texts; most of them have errors that are listed later, too.
func badEntries() []badEntry {
	long := strings.Repeat("x", 196)
	l := []badEntry{
		{api.ArchiveEntry{}, api.ErrMissing},
		{api.ArchiveEntry{At: 4, By: "kim", Text: "?"}, api.ErrMissing},
		{api.ArchiveEntry{At: 4, By: "Bob", Text: "note "}, api.ErrMissing},
		{api.ArchiveEntry{At: 4, By: "bob ", Text: "note "}, api.ErrMissing},
		{api.ArchiveEntry{At: 4, By: "acc", Text: "note "}, api.ErrMissing},
		{api.ArchiveEntry{At: 5, By: strings.Repeat("a", 100000), Text: "note "}, api.ErrMissing},
		{api.ArchiveEntry{At: 4, By: "bob", Text: "note " + long}, api.ErrOrder},
		{api.ArchiveEntry{At: 0, By: "zoe", Text: "end"}, api.ErrOrder},
		{api.ArchiveEntry{At: 4, By: "bob", Text: "note "}, api.ErrOrder},
		{api.ArchiveEntry{At: 5, By: "bob", Text: "note " + long}, api.ErrLarge},
		{api.ArchiveEntry{At: 5, By: "zoe", Text: "ends " + long}, api.ErrLarge},
		{api.ArchiveEntry{At: 5, By: "zoe", Text: "\n" + long + "1234"}, api.ErrLarge},
		{api.ArchiveEntry{At: 5, By: "zoe", Text: strings.Repeat("note ", 100000)}, api.ErrLarge},
		{api.ArchiveEntry{At: 5, By: "zoe", Text: "end "}, api.ErrSyntax},
		{api.ArchiveEntry{At: 5, By: "zoe", Text: "end"}, api.ErrAllowed},
	}
	for _, at := range []int{-1, math.MinInt, api.MaxTick + 1, math.MaxInt} {
		l = append(l, badEntry{api.ArchiveEntry{At: at, By: "kim", Text: "?"}, api.ErrRange}, badEntry{api.ArchiveEntry{At: at, By: "bob", Text: "note "}, api.ErrRange})
	}
	return l
}

// P10.2: the errors of entries, with their indexes.
func TestBadEntries(t *testing.T) {
	for _, b := range badEntries() {
		for _, before := range []int{1, 5, 29} {
			l := append(slices.Repeat(entries("5 bob note so"), before), b.x)
			// What comes behind has further errors.
			for _, l := range [][]api.ArchiveEntry{l, append(slices.Clone(l), make([]api.ArchiveEntry, 29-before)...)} {
				index, e := archive.CheckLog(exampleNet(), l)
				mustBe(t, b.x, index, e, before, b.want)
			}
			mustBe(t, b.x, 0, archive.MayAppend(exampleNet(), l[:before], b.x), 0, b.want)
			// The error of the log comes before that of a further entry.
			mustBe(t, b.x, 0, archive.MayAppend(exampleNet(), l, api.ArchiveEntry{At: -1}), 0, b.want)
		}
		// Nothing is before the first entry of a log: it is in order.
		if b.want != api.ErrOrder {
			index, e := archive.CheckLog(exampleNet(), []api.ArchiveEntry{b.x})
			mustBe(t, b.x, index, e, 0, b.want)
		}
	}
	for _, at := range []int{0, 1, api.MaxTick} {
		for _, by := range []string{"ann", "bob", "zoe"} {
			mustHold(t, exampleNet(), slices.Repeat([]api.ArchiveEntry{{At: at, By: by, Text: "note "}}, 30))
		}
	}
}

// P10.2: at most 30 entries.
func TestLongLogs(t *testing.T) {
	mustHold(t, exampleNet(), notes(30))
	for _, count := range []int{31, 32, 100000} {
		for _, l := range [][]api.ArchiveEntry{notes(count), make([]api.ArchiveEntry, count)} {
			index, e := archive.CheckLog(exampleNet(), l)
			mustBe(t, count, index, e, 0, api.ErrLarge)
			errors, areNothing := errorsOf(exampleNet(), l)
			for name, e := range errors {
				if e != api.ErrLarge || !areNothing {
					t.Error(count, name, e, areNothing)
				}
			}
		}
	}
	mustBe(t, "29", 0, archive.MayAppend(exampleNet(), notes(29), entry("1 zoe note ")), 0, api.OK)
	for _, x := range []api.ArchiveEntry{entry("1 zoe note "), {}, {At: -1}, {At: 1, By: "bob", Text: "?"}} {
		mustBe(t, "30", 0, archive.MayAppend(exampleNet(), notes(30), x), 0, api.ErrLarge)
	}
	for _, x := range []api.ArchiveEntry{{}, {At: -1}} {
		l := append(notes(29), x)
		_, want := archive.CheckLog(exampleNet(), l)
		mustBe(t, "29 and an error", 0, archive.MayAppend(exampleNet(), l, entry("1 zoe note ")), 0, want)
	}
}

// The error of a log comes first everywhere.
func TestErrorsOfLogs(t *testing.T) {
	for _, b := range badEntries() {
		l := append(entries("5 bob note so"), b.x)
		errors, areNothing := errorsOf(exampleNet(), l)
		for name, e := range errors {
			if e != b.want || !areNothing {
				t.Error(b.x, name, e, areNothing)
			}
		}
	}
	good, bad := notes(1), []api.ArchiveEntry{{At: -1}}
	merged, e := archive.Merged(exampleNet(), bad, []api.ArchiveEntry{{}})
	mustFail(t, "both", merged, e, api.ErrRange)
	merged, e = archive.Merged(exampleNet(), good, []api.ArchiveEntry{{}})
	mustFail(t, "the other one", merged, e, api.ErrMissing)
}

// P10.2: a lesser role than that of a text may not make it, whatever else is wrong; a greater one may.
func TestRoles(t *testing.T) {
	least := map[string]int{
		"note x": api.ArchiveGuest, "specimen 1 999999": api.ArchiveEngineer, "put x 9": api.ArchiveOperator, "clear x": api.ArchiveOperator,
		"sign x x": api.ArchiveOperator, "action x": api.ArchiveOperator, "seal x 9": api.ArchiveGuest, "open x x": api.ArchiveGuest,
		"begin x 9 x": api.ArchiveOperator, "record x x": api.ArchiveOperator, "decay x": api.ArchiveOperator, "end": api.ArchiveOperator,
	}
	for text, role := range least {
		for by, own := range map[string]int{"ann": api.ArchiveChief, "eve": api.ArchiveEngineer, "bob": api.ArchiveOperator, "zoe": api.ArchiveGuest} {
			e := archive.MayAppend(wideNet(), wideLog(), api.ArchiveEntry{At: 9, By: by, Text: text})
			if (e == api.ErrAllowed) != (own < role) {
				t.Error(text, by, e)
			}
		}
	}
}

// P10.2: signatures are in the role of the person.
func TestSignedRoles(t *testing.T) {
	s := stateAfter(t, wideNet(), wideLog())
	mustStay(t, "signatures", s.Specimens[0].Signs, []api.SafetySign{
		{Gate: 0, Person: "ann", Role: "chief"}, {Gate: 1, Person: "ann", Role: "chief"}, {Gate: 1, Person: "bob", Role: "operator"}, {Gate: 2, Person: "eve", Role: "engineer"},
	})
}

// signers returns a net of six operators and six gates, and a log with so many of their signatures.
func signers(signs int) (api.ArchiveNet, []api.ArchiveEntry) {
	n := wideNet()
	n.Gates = nil
	l := entries("1 p0 specimen wall 0", "1 p0 specimen beam 0")
	for i := range 6 {
		n.Persons[i] = person("p"+strconv.Itoa(i), api.ArchiveEngineer)
		n.Gates = append(n.Gates, gate("g"+strconv.Itoa(i), 0))
	}
	for i := range signs {
		l = longer(l, "1 p"+strconv.Itoa(i%6)+" sign wall g"+strconv.Itoa(i/6))
	}
	return n, l
}

// P10.2: at most 20 signatures, 4 seals, 4 specimens and 6 runs.
func TestFull(t *testing.T) {
	n, l := signers(20)
	mustBe(t, "signatures", 0, archive.MayAppend(n, l, entry("1 p5 sign wall g5")), 0, api.ErrFull)
	mustBe(t, "twice", 0, archive.MayAppend(n, l, entry("1 p0 sign wall g0")), 0, api.ErrDouble)
	mustBe(t, "no gate", 0, archive.MayAppend(n, l, entry("1 p0 sign wall g6")), 0, api.ErrMissing)
	mustBe(t, "another specimen", 0, archive.MayAppend(n, l, entry("1 p5 sign beam g5")), 0, api.OK)
	n, l = signers(19)
	mustBe(t, "19 signatures", 0, archive.MayAppend(n, l, entry("1 p5 sign wall g5")), 0, api.OK)

	l = entries("1 ann specimen wall 0", "1 ann seal wall 1", "1 bob seal wall 1", "1 eve seal wall 0", "1 xia seal wall 999999")
	mustHold(t, wideNet(), l)
	mustBe(t, "seals", 0, archive.MayAppend(wideNet(), l, entry("1 yan seal wall 98")), 0, api.ErrFull)
	mustBe(t, "seal twice", 0, archive.MayAppend(wideNet(), l, entry("1 ann seal wall 2")), 0, api.ErrDouble)

	l = entries("1 ann specimen a 0", "1 ann specimen b 0", "1 ann specimen c 0", "1 ann specimen d 0")
	mustHold(t, wideNet(), l)
	mustBe(t, "specimens", 0, archive.MayAppend(wideNet(), l, entry("1 ann specimen e 100000")), 0, api.ErrFull)
	mustBe(t, "long curing", 0, archive.MayAppend(wideNet(), l, entry("1 ann specimen e 100001")), 0, api.ErrRange)
	mustBe(t, "specimen twice", 0, archive.MayAppend(wideNet(), l, entry("1 ann specimen d 100001")), 0, api.ErrExists)

	n = with(exampleNet(), func(n *api.ArchiveNet) { n.Permits = api.SafetyTest{} })
	l = entries("1 ann specimen wall 0", "1 ann put wall 0", "1 ann sign wall low")
	for range 6 {
		mustBe(t, "runs", 0, archive.MayAppend(n, l, entry("9 ann begin wall 1 "+small)), 0, api.OK)
		l = longer(l, run("wall", 1, small, "acc 1", early)...)
	}
	mustBe(t, "six runs", 0, archive.MayAppend(n, l, entry("9 ann begin wall 1 "+small)), 0, api.ErrFull)
	mustBe(t, "not at rest", 0, archive.MayAppend(n, l, entry("9 ann begin wall 1 10;1 -2 2")), 0, api.ErrForm)
}

// P10.2: specimens, their spaces and when they are ready.
func TestSpecimens(t *testing.T) {
	l := entries("1 ann specimen wall 5", "1 eve specimen WALL 0", "2 eve specimen beam 100000", "2 bob put WALL 3", "2 bob put wall 0", "3 bob clear WALL", "3 bob put beam 3")
	s := stateAfter(t, wideNet(), l)
	mustStay(t, "specimens", s.Specimens, []api.ArchiveSpecimen{{Name: "wall", Ready: 6, Space: 0}, {Name: "WALL", Ready: 1, Space: api.ArchiveNowhere}, {Name: "beam", Ready: 100002, Space: 3}})
	s = stateAfter(t, wideNet(), entries("1000000000000 eve specimen wall 100000"))
	mustStay(t, "late", s.Specimens[0].Ready, api.MaxTick+100000)
	without := with(wideNet(), func(n *api.ArchiveNet) { n.Spaces = 0 })
	mustBe(t, "no spaces", 0, archive.MayAppend(without, l[:3], entry("9 bob put wall 0")), 0, api.ErrRange)
	for _, name := range goodNames() {
		s = stateAfter(t, wideNet(), entries("1 ann specimen "+name+" 0", "1 ann put "+name+" 0"))
		mustStay(t, name, s.Specimens, []api.ArchiveSpecimen{{Name: name, Ready: 1, Space: 0}})
	}
}

// P10.2: the machine goes on by actions, and never to a harm.
func TestActions(t *testing.T) {
	l := entries()
	for _, y := range []struct {
		text string
		want api.Errno
		next int
	}{
		{"action start", api.ErrState, 0}, {"action halt", api.ErrState, 0}, {"action none", api.ErrMissing, 0}, {"action key", api.ErrMissing, 0}, {"action pull", api.OK, 0},
		{"action turn", api.OK, 1}, {"action turn", api.OK, 1}, {"action halt", api.ErrState, 1}, {"action start", api.OK, 3}, {"action pull", api.ErrBreak, 3},
		{"action none", api.ErrMissing, 3}, {"action halt", api.OK, 1}, {"action pull", api.OK, 0},
	} {
		x := api.ArchiveEntry{At: 1, By: "bob", Text: y.text}
		mustBe(t, y.text, 0, archive.MayAppend(wideNet(), l, x), 0, y.want)
		if y.want == api.OK {
			l = append(l, x)
		}
		mustStay(t, y.text, stateAfter(t, wideNet(), l).Machine, y.next)
	}
	// A state is a harm if the last test holds.
	n := with(wideNet(), func(n *api.ArchiveNet) { n.Machine.Harms = []api.SafetyTest{test("+1-0"), test("+0+1")} })
	mustBe(t, "start", 0, archive.MayAppend(n, entries("1 bob action turn"), entry("1 bob action start")), 0, api.ErrBreak)
}

// check is an entry behind a log, and its error.
type check struct {
	name  string
	l     []api.ArchiveEntry
	entry string
	want  api.Errno
}

// mustCheck reports entries that have another error.
func mustCheck(t *testing.T, n api.ArchiveNet, checks []check) {
	t.Helper()
	for _, y := range checks {
		mustHold(t, n, y.l)
		mustBe(t, y.name+": "+y.entry, 0, archive.MayAppend(n, y.l, entry(y.entry)), 0, y.want)
		index, e := archive.CheckLog(n, longer(y.l, y.entry))
		if y.want != api.OK {
			mustBe(t, y.name+": "+y.entry, index, e, len(y.l), y.want)
		}
	}
}

// P10.2: the errors of texts about specimens, in their order.
func TestErrorsOfSpecimens(t *testing.T) {
	wall := entries("1 ann specimen wall 5", "1 ann specimen beam 0")
	placed := longer(wall, "1 ann put wall 1")
	open := longer(wideLog(), "9 ann begin wall 1 "+small)
	mustCheck(t, wideNet(), []check{
		{"a name first", wall, "1 ann specimen 1 999999", api.ErrName},
		{"exists before range", wall, "1 ann specimen wall 100001", api.ErrExists},
		{"range", wall, "1 ann specimen slab 100001", api.ErrRange},
		{"as great as permitted", wall, "1 ann specimen slab 100000", api.OK},
		{"another case", wall, "1 ann specimen Wall 0", api.OK},
		{"missing before range", wall, "1 ann put slab 9", api.ErrMissing},
		{"range before double", placed, "1 ann put wall 4", api.ErrRange},
		{"double before busy", placed, "1 ann put wall 1", api.ErrDouble},
		{"double", placed, "1 ann put wall 2", api.ErrDouble},
		{"busy", placed, "1 ann put beam 1", api.ErrBusy},
		{"the last space", placed, "1 ann put beam 3", api.OK},
		{"no such specimen to clear", placed, "1 ann clear slab", api.ErrMissing},
		{"no space to clear", placed, "1 ann clear beam", api.ErrState},
		{"open", open, "9 ann clear wall", api.ErrBusy},
		{"another one is open", longer(open, "9 ann specimen beam 0", "9 ann put beam 0"), "9 ann clear beam", api.OK},
		{"cleared", placed, "1 ann clear wall", api.OK},
		{"cleared twice", longer(placed, "1 ann clear wall"), "1 ann clear wall", api.ErrState},
		{"free again", longer(placed, "1 ann clear wall"), "1 ann put beam 1", api.OK},
		{"done", longer(wideLog(), run("wall", 1, small, "acc 1", early)...), "9 bob clear wall", api.OK},
		{"no such specimen to sign", wall, "1 ann sign slab none", api.ErrMissing},
		{"no such gate", wall, "1 ann sign wall none", api.ErrMissing},
		{"another gate", wideLog(), "1 bob sign wall low", api.OK},
		{"signed", wideLog(), "1 bob sign wall high", api.ErrDouble},
		{"signed by another one", wideLog(), "1 eve sign wall high", api.OK},
		{"signed for another one", longer(wideLog(), "1 ann specimen beam 0"), "1 ann sign beam low", api.OK},
	})
}

// P10.2: the errors of seals, in their order.
func TestErrorsOfSeals(t *testing.T) {
	sealed := longer(wideLog(), "1 zoe seal wall 98", "1 ann specimen beam 0")
	open := longer(sealed, "9 ann begin wall 1 "+small)
	done := longer(sealed, run("wall", 1, small, "acc 1", early)...)
	mustCheck(t, wideNet(), []check{
		{"no such specimen", sealed, "1 zoe seal slab 98", api.ErrMissing},
		{"runs before double", done, "9 zoe seal wall 98", api.ErrState},
		{"an open run", open, "9 xia seal wall 98", api.ErrState},
		{"a run of another specimen", done, "9 xia seal beam 98", api.OK},
		{"double", sealed, "1 zoe seal wall 99", api.ErrDouble},
		{"of another specimen", sealed, "1 zoe seal beam 98", api.OK},
		{"of another person", sealed, "1 ann seal wall 98", api.OK},
		{"a greater number than any sum", sealed, "1 ann seal wall 999999", api.OK},
		{"no such specimen to open", done, "9 zoe open slab a", api.ErrMissing},
		{"no own seal", done, "9 xia open wall a", api.ErrNone},
		{"no own seal before no run", sealed, "1 xia open wall a", api.ErrNone},
		{"no own seal of this specimen", done, "9 zoe open beam a", api.ErrNone},
		{"opened", longer(done, "9 zoe open wall a"), "9 zoe open wall a", api.ErrDouble},
		{"opened, but with another sum", longer(done, "9 zoe open wall a"), "9 zoe open wall b", api.ErrDouble},
		{"no run", sealed, "1 zoe open wall b", api.ErrState},
		{"an open run alone", open, "9 zoe open wall a", api.ErrState},
		{"a run of another specimen alone", longer(done, "9 yan seal beam 98"), "9 yan open beam a", api.ErrState},
		{"another sum", done, "9 zoe open wall b", api.ErrProof},
		{"no text", done, "9 zoe open wall ", api.ErrProof},
		{"a blank more", done, "9 zoe open wall  a", api.ErrProof},
		{"opened at last", done, "9 zoe open wall a", api.OK},
		{"while another run is open", longer(done, "9 ann begin wall 2 "+small), "9 zoe open wall a", api.OK},
	})
}

// P10.2: what seals are sealed with, and opened with, in any order.
func TestSeals(t *testing.T) {
	l := longer(wideLog(), "1 zoe seal wall 98", "1 ann seal wall 0", "1 bob seal wall "+sumText(" b  c "), "1 eve seal wall 999999")
	l = longer(l, run("wall", 1, small, "acc 1", early)...)
	want := []api.ArchiveSeal{{By: "zoe", Sum: 98}, {By: "ann"}, {By: "bob", Sum: sumByHand(" b  c ")}, {By: "eve", Sum: 999999}}
	mustStay(t, "sealed", stateAfter(t, wideNet(), l).Specimens[0].Seals, want)
	l = longer(l, "9 bob open wall  b  c ")
	want[2].Opened, want[2].Text = true, " b  c "
	mustStay(t, "one opened", stateAfter(t, wideNet(), l).Specimens[0].Seals, want)
	l = longer(l, "9 ann open wall ", "9 zoe open wall a")
	want[0].Opened, want[1].Opened, want[0].Text = true, true, "a"
	mustStay(t, "all but one opened", stateAfter(t, wideNet(), l).Specimens[0].Seals, want)
}

// P10.2: the errors of runs, in their order.
func TestErrorsOfBegin(t *testing.T) {
	signed := []string{"1 ann sign wall low", "1 ann sign wall high", "1 bob sign wall high"}
	wall := longer(entries("1 ann specimen wall 5"), signed...)
	placed := longer(wall, "1 ann put wall 0")
	permitted := longer(placed, "1 ann action turn")
	done := longer(permitted, run("wall", 1, small, "acc 1", early)...)
	open := longer(permitted, "9 ann begin wall 1 "+small, "9 ann specimen beam 0")
	mustCheck(t, exampleNet(), []check{
		{"no such specimen before open", open, "9 ann begin slab 9 ", api.ErrMissing},
		{"open before no space", open, "9 ann begin beam 9 ", api.ErrBusy},
		{"its own run", open, "9 ann begin wall 1 " + small, api.ErrBusy},
		{"no space before not ready", wall, "1 ann begin wall 9 ", api.ErrState},
		{"not ready before no such level", placed, "5 ann begin wall 0 ", api.ErrOpen},
		{"no such level", placed, "6 ann begin wall 3 ", api.ErrRange},
		{"the level 0", placed, "6 ann begin wall 0 ", api.ErrRange},
		{"a great level", placed, "6 ann begin wall 999999 ", api.ErrRange},
		{"not signed before a gap", longer(placed[:2:2], "1 ann put wall 0"), "6 ann begin wall 2 ", api.ErrRefused},
		{"not signed at all", entries("1 ann specimen wall 0", "1 ann put wall 0"), "1 ann begin wall 1 ", api.ErrRefused},
		{"a gap before not permitted", placed, "6 ann begin wall 2 ", api.ErrGap},
		{"not permitted before no record", placed, "6 ann begin wall 1 ", api.ErrClash},
		{"not permitted", placed, "6 ann begin wall 1 " + small, api.ErrClash},
		{"no record", permitted, "6 ann begin wall 1 ", api.ErrSyntax},
		{"a bad record", permitted, "6 ann begin wall 1 10;1 x", api.ErrSyntax},
		{"a bad step", permitted, "6 ann begin wall 1 0;1 -2 1", api.ErrRange},
		{"a short record", permitted, "6 ann begin wall 1 10;0", api.ErrShape},
		{"a long record", permitted, "6 ann begin wall 1 10;0" + strings.Repeat(" 0", 24), api.ErrLarge},
		{"a great sample", permitted, "6 ann begin wall 1 10;1001 -2002 1001", api.ErrRange},
		{"ends with a velocity", permitted, "6 ann begin wall 1 10;1 -2", api.ErrForm},
		{"ends with a displacement", permitted, "6 ann begin wall 1 10;1 -1", api.ErrForm},
		{"a record of zeros", permitted, "6 ann begin wall 1 10;0 0", api.OK},
		{"ready", permitted, "6 ann begin wall 1 " + great, api.OK},
		{"later", permitted, "1000000000000 bob begin wall 1 " + great, api.OK},
		{"the level again", done, "9 bob begin wall 1 " + small, api.OK},
		{"the next level", done, "9 bob begin wall 2 " + small, api.OK},
		{"the level of another specimen", longer(done, "9 ann specimen beam 0", "9 ann put beam 1", "9 ann sign beam low", "9 ann sign beam high", "9 bob sign beam high"), "9 bob begin beam 2 " + small, api.ErrGap},
	})
	curing := entries("1 ann specimen wall 0", "1 ann put wall 0", "1 ann sign wall low", "1 bob action turn")
	mustCheck(t, exampleNet(), []check{{"ready at once", curing, "1 bob begin wall 1 " + small, api.OK}})
}

// P10.2: what must hold when a run begins.
func TestPermits(t *testing.T) {
	states := map[int][]string{0: nil, 1: {"1 ann action turn"}, 3: {"1 ann action turn", "1 ann action start"}}
	for permits, holds := range map[string][]int{"": {0, 1, 3}, "+0": {1, 3}, "-0": {0}, "+1": {3}, "-1": {0, 1}, "+0-1": {1}, "-0-1": {0}, "+0+1": {3}, "+1-0": nil} {
		n := with(wideNet(), func(n *api.ArchiveNet) { n.Permits = test(permits) })
		for state, actions := range states {
			want := api.ErrClash
			if slices.Contains(holds, state) {
				want = api.OK
			}
			mustBe(t, permits, 0, archive.MayAppend(n, longer(wideLog(), actions...), entry("1 ann begin wall 1 "+small)), 0, want)
		}
	}
}

// P10.2: the levels that may follow.
func TestLevels(t *testing.T) {
	l := wideLog()
	may := func(wants ...api.Errno) {
		t.Helper()
		for level, want := range wants {
			mustBe(t, level, 0, archive.MayAppend(wideNet(), l, entry("9 eve begin wall "+strconv.Itoa(level)+" "+small)), 0, want)
		}
	}
	may(api.ErrRange, api.OK, api.ErrGap, api.ErrGap, api.ErrRange)
	l = longer(l, run("wall", 1, small, "acc 1", early)...)
	may(api.ErrRange, api.OK, api.OK, api.ErrGap, api.ErrRange)
	l = longer(l, run("wall", 1, small, "acc 1", slow)...)
	may(api.ErrRange, api.OK, api.OK, api.ErrGap, api.ErrRange)
	l = longer(l, run("wall", 2, small, "acc 1", early)...)
	may(api.ErrRange, api.OK, api.OK, api.OK, api.ErrRange)
	l = longer(l, run("wall", 1, small, "acc 1", early)...)
	may(api.ErrRange, api.OK, api.OK, api.OK, api.ErrRange)
	l = longer(l, run("wall", 3, small, "acc 1", early)...)
	may(api.ErrRange, api.OK, api.OK, api.OK, api.ErrRange)
}

// P10.2: the errors of what is recorded in a run, in their order, and what the run has.
func TestErrorsOfRecords(t *testing.T) {
	open := longer(wideLog(), "9 ann begin wall 1 "+great)
	recorded := longer(open, "9 ann record pos 1 -2 3")
	decayed := longer(recorded, "9 ann decay "+half)
	mustCheck(t, wideNet(), []check{
		{"no run before no channel", wideLog(), "9 ann record none x", api.ErrNone},
		{"no run for a decay", wideLog(), "9 ann decay x", api.ErrNone},
		{"no run to end", wideLog(), "9 ann end", api.ErrNone},
		{"no channel before no samples", open, "9 ann record none x", api.ErrMissing},
		{"no channel", open, "9 ann record key 1", api.ErrMissing},
		{"double before no samples", recorded, "9 ann record pos x", api.ErrDouble},
		{"no samples", open, "9 ann record pos ", api.ErrSyntax},
		{"bad samples", open, "9 ann record pos 1  2", api.ErrSyntax},
		{"great samples", open, "9 ann record pos 100001", api.ErrRange},
		{"many samples", open, "9 ann record pos 1" + strings.Repeat(" 1", 60), api.ErrLarge},
		{"another channel", recorded, "9 ann record acc -100000", api.OK},
		{"double before no decay", decayed, "9 ann decay x", api.ErrDouble},
		{"no decay", open, "9 ann decay ", api.ErrSyntax},
		{"a bad decay", open, "9 ann decay 1;2;3", api.ErrSyntax},
		{"a great decay", open, "9 ann decay 10001;1", api.ErrRange},
		{"a long decay", open, "9 ann decay 0;1" + strings.Repeat(" 1", 60), api.ErrLarge},
		{"no period", open, "9 ann decay 0;-5 5 -5", api.ErrNone},
		{"no period for all errors", open, "9 ann decay 5;-5 5 -5 5", api.ErrNone},
		{"a decay", open, "9 ann decay " + early, api.OK},
		{"no channel before no decay at the end", open, "9 ann end", api.ErrZero},
		{"no channel", longer(open, "9 ann decay "+early), "9 ann end", api.ErrZero},
		{"no decay at the end", recorded, "9 ann end", api.ErrGap},
		{"the end", decayed, "9 ann end", api.OK},
		{"ended", longer(decayed, "9 ann end"), "9 ann end", api.ErrNone},
		{"a channel after the end", longer(decayed, "9 ann end"), "9 ann record acc 1", api.ErrNone},
		{"a channel of the next run", longer(decayed, "9 ann end", "9 ann begin wall 1 "+small), "9 ann record pos 1", api.OK},
		{"nothing of the next run", longer(decayed, "9 ann end", "9 ann begin wall 1 "+small), "9 ann end", api.ErrZero},
		{"a decay of the next run", longer(decayed, "9 ann end", "9 ann begin wall 1 "+small), "9 ann decay " + late, api.OK},
	})
	want := api.ArchiveRun{Level: 1, Motion: api.MotionRecord{Step: 5, Samples: []int{2, 0, -3, -1, 1, 1}}}
	mustRun := func(l []api.ArchiveEntry, open int) {
		t.Helper()
		s := stateAfter(t, wideNet(), l)
		mustStay(t, "runs", s.Specimens[0].Runs, []api.ArchiveRun{want})
		mustStay(t, "open", s.Open, open)
	}
	mustRun(open, 0)
	want.Channels, want.Raws = []int{1}, [][]int{{1, -2, 3}}
	mustRun(recorded, 0)
	want.Decays, want.Decay = true, api.ModalDecay{Samples: []int{-5, 5, -5, 5, -5, 5}, Off: 1}
	mustRun(decayed, 0)
	want.Channels, want.Raws = []int{1, 0}, [][]int{{1, -2, 3}, {7}}
	mustRun(longer(decayed, "9 bob record acc 7"), 0)
	mustRun(longer(decayed, "9 bob record acc 7", "9 bob end"), api.ArchiveNowhere)
}

// P10.2: a run is that of its specimen, whichever this is.
func TestRunsOfSpecimens(t *testing.T) {
	l := longer(wideLog(), "1 ann specimen beam 0", "1 ann put beam 0", "1 ann sign beam low")
	l = longer(l, run("wall", 1, small, "acc 1", early)...)
	l = longer(l, run("beam", 1, great, "pos 2", slow)[:3]...)
	s := stateAfter(t, wideNet(), l)
	mustStay(t, "open", s.Open, 1)
	if len(s.Specimens[0].Runs) != 1 || len(s.Specimens[1].Runs) != 1 {
		t.Fatal(s)
	}
	mustStay(t, "raw samples", s.Specimens[1].Runs[0].Raws, [][]int{{2}})
	mustStay(t, "step", s.Specimens[1].Runs[0].Motion.Step, 5)
	mustStay(t, "channels", s.Specimens[0].Runs[0].Channels, []int{0})
	level, e := archive.LevelOf(wideNet(), l, "beam")
	mustBe(t, "open", level, e, 0, api.OK)
	level, e = archive.LevelOf(wideNet(), longer(l, "9 bob end"), "beam")
	mustBe(t, "done", level, e, 1, api.OK)
}
