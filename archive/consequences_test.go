package archive_test

import (
	"slices"
	"strings"
	"testing"

	"ductility/api"
	"ductility/archive"
	"ductility/safety"
)

// P10.2: a log has no error exactly if each of its entries may be appended to those before.
func TestAppended(t *testing.T) {
	random := fixedRandom()
	for _, l := range someLogs(60) {
		for i, x := range l {
			mustBe(t, x, 0, archive.MayAppend(wideNet(), l[:i], x), 0, api.OK)
		}
		for range 20 {
			x := api.ArchiveEntry{At: 150 - random.IntN(2)*150, By: oneOf(random, "ann", "bob", "zoe"), Text: someText(random)}
			want := archive.MayAppend(wideNet(), l, x)
			index, e := archive.CheckLog(wideNet(), append(slices.Clone(l), x))
			wantIndex := len(l)
			// A log that is too long has no entry that is named.
			if want == api.OK || len(l) == api.MaxArchiveLog {
				wantIndex = 0
			}
			mustBe(t, x, index, e, wantIndex, want)
		}
	}
}

// doneOf returns the runs of each specimen that are done.
func doneOf(s api.ArchiveState) [][]api.ArchiveRun {
	var all [][]api.ArchiveRun
	for i, x := range s.Specimens {
		runs := x.Runs
		if s.Open == i {
			runs = runs[:len(runs)-1]
		}
		all = append(all, runs)
	}
	return all
}

// P10.6: the state follows from the log alone; the runs of a beginning are a beginning of those of the log.
func TestReplayed(t *testing.T) {
	for _, l := range someLogs(60) {
		s := stateAfter(t, wideNet(), l)
		again := stateAfter(t, wideNet(), slices.Clone(l))
		mustStay(t, "state", again, s)
		results, _ := archive.ResultsOf(wideNet(), l)
		resultsAgain, _ := archive.ResultsOf(wideNet(), slices.Clone(l))
		mustStay(t, "results", resultsAgain, results)
		all := doneOf(s)
		for i := range l {
			for specimen, runs := range doneOf(stateAfter(t, wideNet(), l[:i])) {
				mustStay(t, "runs", runs, all[specimen][:len(runs)])
				mustBeBeginning(t, l[:i], l, s.Specimens[specimen].Name, len(runs))
			}
		}
	}
}

// mustBeBeginning reports so many runs that have other motions, values or periods in a log with further entries.
func mustBeBeginning(t *testing.T, l, further []api.ArchiveEntry, specimen string, runs int) {
	t.Helper()
	for run := range runs {
		motion, e := archive.MotionOf(wideNet(), l, specimen, run)
		later, _ := archive.MotionOf(wideNet(), further, specimen, run)
		mustBe(t, run, motion, e, later, api.OK)
		values, e := archive.ValuesOf(wideNet(), l, specimen, run)
		laterValues, _ := archive.ValuesOf(wideNet(), further, specimen, run)
		mustBe(t, run, values, e, laterValues, api.OK)
	}
	periods, e := archive.PeriodsOf(wideNet(), l, specimen)
	later, _ := archive.PeriodsOf(wideNet(), further, specimen)
	mustBe(t, specimen, periods, e, later[:runs], api.OK)
}

// P10.7: no seal is made after a run, and none is opened before one is done; what was opened has the sealed sum.
func TestSealed(t *testing.T) {
	opened := 0
	for _, l := range someLogs(200) {
		before := api.ArchiveState{}
		for i := range l {
			s := stateAfter(t, wideNet(), l[:i+1])
			for specimen, x := range s.Specimens {
				if specimen >= len(before.Specimens) {
					continue
				}
				was := before.Specimens[specimen]
				if len(was.Runs) > 0 && len(x.Seals) != len(was.Seals) {
					t.Error("sealed after a run", l[i])
				}
				for k, seal := range x.Seals[:len(was.Seals)] {
					if seal.Opened && !was.Seals[k].Opened && len(doneOf(before)[specimen]) == 0 {
						t.Error("opened before a run", l[i])
					}
				}
			}
			before = s
		}
		for _, x := range before.Specimens {
			for _, seal := range x.Seals {
				if seal.Opened {
					opened++
				}
				sum, e := archive.SumOf(seal.Text)
				if seal.Opened && (e != api.OK || sum != seal.Sum) || !seal.Opened && seal.Text != "" {
					t.Error(seal, sum, e)
				}
			}
		}
	}
	if opened < 10 {
		t.Error(opened)
	}
}

// P10.8: each run is behind its gate, and the machine is never in a harm.
func TestBehindItsGate(t *testing.T) {
	n := wideNet()
	runs := 0
	for _, l := range someLogs(200) {
		greatest := map[string]int{}
		for i, x := range l {
			s := stateAfter(t, n, l[:i+1])
			// The harm of the net: run without key.
			if s.Machine == 2 {
				t.Error("a harm", l[:i+1])
			}
			words := strings.Split(x.Text, " ")
			if words[0] != "begin" {
				continue
			}
			runs++
			open := s.Specimens[s.Open]
			level := open.Runs[len(open.Runs)-1].Level
			signed, e := safety.LevelBy(n.Gates, open.Signs)
			if e != api.OK || level > signed || level > greatest[words[1]]+1 || level < 1 {
				t.Error(level, signed, greatest, e)
			}
			// Another run begins only after the end of this one.
			if isEnded(l[i+1:]) {
				greatest[words[1]] = max(greatest[words[1]], level)
			}
		}
	}
	if runs < 50 {
		t.Error(runs)
	}
}

// isEnded tells whether an open run is ended by entries behind it.
func isEnded(l []api.ArchiveEntry) bool {
	return slices.ContainsFunc(l, func(x api.ArchiveEntry) bool { return x.Text == "end" })
}

// renamed returns a net and a log in which the persons have other names.
func renamed(n api.ArchiveNet, l []api.ArchiveEntry, names map[string]string) (api.ArchiveNet, []api.ArchiveEntry) {
	n.Persons, l = slices.Clone(n.Persons), slices.Clone(l)
	for i, p := range n.Persons {
		n.Persons[i].Name = names[p.Name]
	}
	for i, x := range l {
		l[i].By = names[x.By]
	}
	return n, l
}

// P10.11: results contain no names; with other names of persons they are the same.
func TestWithoutNames(t *testing.T) {
	names := map[string]string{"ann": "bob", "bob": "sound", "eve": "A-1", "xia": "ann", "yan": "y", "zoe": "damage"}
	count := 0
	for _, l := range someLogs(200) {
		results, e := archive.ResultsOf(wideNet(), l)
		otherNet, other := renamed(wideNet(), l, names)
		mustHold(t, otherNet, other)
		again, otherError := archive.ResultsOf(otherNet, other)
		mustBe(t, l, again, otherError, results, e)
		count += len(results)
		for _, text := range results {
			for _, word := range strings.Split(text, " ") {
				if isName := word[0] > '9'; isName && word != "sound" && word != "damage" {
					t.Error(text)
				}
			}
		}
	}
	if count < 50 {
		t.Error(count)
	}
	n, l := renamed(exampleNet(), doneLog(), map[string]string{"ann": "x", "bob": "y", "zoe": "z"})
	results, e := archive.ResultsOf(n, l)
	mustBe(t, "example", results, e, []string{"0 1 2 1 1 0 8/1 1/1 3/1 sound"}, api.OK)
}
