package archive_test

import (
	"math"
	"slices"
	"strings"
	"sync"
	"testing"

	"ductility/api"
	"ductility/archive"
)

// spoil overwrites a slice, and what follows it in memory.
func spoil[T any](list []T, by T) {
	for i := range list[:cap(list)] {
		list[:cap(list)][i] = by
	}
}

// richLog returns a log with all that a state may have: seals, signatures, channels of several runs, and an open run.
func richLog() []api.ArchiveEntry {
	l := longer(wideLog(), "2 zoe seal wall 98", "2 ann specimen beam 3", "3 bob put beam 0", "3 ann sign beam low", "4 xia seal beam 0", "5 bob action turn")
	l = longer(l, run("wall", 1, small, "acc 3 -4", early)...)
	l = longer(l, "9 ann begin beam 1 "+great, "9 ann record odd 1 2 3", "9 ann record pos 4 5", "9 ann decay "+slow, "9 ann end", "9 zoe open wall a")
	return longer(l, "9 ann begin wall 2 "+great, "9 ann record acc 9 9", "9 ann record flat 1", "9 ann decay "+half)
}

// spoilState overwrites a state from its front, and reports what changes behind what is overwritten.
func spoilState(t *testing.T, s, want api.ArchiveState) {
	t.Helper()
	for i, x := range s.Specimens {
		for k, r := range x.Runs {
			mustStay(t, "runs", x.Runs[k:], want.Specimens[i].Runs[k:])
			spoil(r.Motion.Samples, -77)
			mustStay(t, "channels", r.Channels, want.Specimens[i].Runs[k].Channels)
			spoil(r.Channels, -77)
			for c, raw := range r.Raws {
				mustStay(t, "raw samples", r.Raws[c:], want.Specimens[i].Runs[k].Raws[c:])
				spoil(raw, -77)
			}
			spoil(r.Raws, nil)
			mustStay(t, "decay", r.Decay, want.Specimens[i].Runs[k].Decay)
			spoil(r.Decay.Samples, -77)
		}
		spoil(x.Runs, api.ArchiveRun{})
		mustStay(t, "signatures", x.Signs, want.Specimens[i].Signs)
		spoil(x.Signs, api.SafetySign{})
		mustStay(t, "seals", x.Seals, want.Specimens[i].Seals)
		spoil(x.Seals, api.ArchiveSeal{})
		mustStay(t, "specimens", s.Specimens[i+1:], want.Specimens[i+1:])
	}
	spoil(s.Specimens, api.ArchiveSpecimen{})
}

// R3: a state shares no memory with the net, the log, itself or what is returned later.
func TestStateSharesNoMemory(t *testing.T) {
	n, l := wideNet(), richLog()
	mustHold(t, n, l)
	want := stateAfter(t, n, l)
	for range 2 { // what is spoiled in the first round would be seen in the second one
		s, e := archive.StateOf(n, l)
		mustBe(t, "state", s, e, want, api.OK)
		spoilState(t, s, want)
	}
	mustStay(t, "net", n, wideNet())
	mustStay(t, "log", l, richLog())
}

// R3: results share no memory with the net, the log, each other or what is returned later.
func TestResultsShareNoMemory(t *testing.T) {
	n, l := wideNet(), richLog()
	journal, e := archive.JournalOf(l)
	mustBe(t, "journal", journal, e, journalByHand(l), api.OK)
	for range 2 {
		motion, e := archive.MotionOf(n, l, "beam", 0)
		mustBe(t, "motion", motion, e, api.MotionRecord{Step: 5, Samples: []int{2, 0, -3, -1, 1, 1}}, api.OK)
		spoil(motion.Samples, -77)
		values, e := archive.ValuesOf(n, l, "beam", 0)
		want := []api.SensorValues{{Den: 3, Parts: []int{6, 10, 14}}, {Den: 2, Parts: []int{-85, -110}}}
		mustBe(t, "values", values, e, want, api.OK)
		spoil(values[0].Parts, -77)
		mustStay(t, "values", values[1], want[1])
		spoil(values, api.SensorValues{})
		periods, e := archive.PeriodsOf(n, l, "beam")
		mustBe(t, "periods", periods, e, []api.Span{span(5, 1, 7, 1)}, api.OK)
		spoil(periods, api.Span{})
		damage, e := archive.DamageOf(n, l, "beam")
		mustBe(t, "damage", damage, e, []bool{false}, api.OK)
		spoil(damage, true)
		results, e := archive.ResultsOf(n, l)
		mustBe(t, "results", results, e, []string{"0 1 2 1 1 0 8/1 1/1 3/1 sound", "1 1 3 2 4 3 14/3 1 110/2 5/1 7/1 sound"}, api.OK)
		spoil(results, "?")
		for _, other := range [][]api.ArchiveEntry{nil, l[:3], l} {
			merged, e := archive.Merged(n, l, other)
			mustBe(t, "merged", merged, e, l, api.OK)
			spoil(merged, api.ArchiveEntry{})
		}
		recovered, _, e := archive.Recovered(n, journal)
		mustBe(t, "recovered", recovered, e, l, api.OK)
		spoil(recovered, api.ArchiveEntry{})
	}
	mustStay(t, "net", n, wideNet())
	mustStay(t, "log", l, richLog())
}

// all calls all functions of a net and a log.
func all(n api.ArchiveNet, l, other []api.ArchiveEntry, specimen string, number int) {
	archive.CheckNet(n)
	archive.CheckLog(n, l)
	archive.StateOf(n, l)
	for _, x := range other {
		archive.MayAppend(n, l, x)
		archive.ParseEntry(archive.FormatEntry(x))
	}
	archive.SumOf(specimen)
	archive.LevelOf(n, l, specimen)
	archive.MotionOf(n, l, specimen, number)
	archive.ValuesOf(n, l, specimen, number)
	archive.PeriodsOf(n, l, specimen)
	archive.DamageOf(n, l, specimen)
	archive.FragilityOf(n, l, number)
	archive.ResultsOf(n, l)
	archive.SealsOf(n, l, specimen)
	journal, _ := archive.JournalOf(l)
	archive.Recovered(n, journal)
	archive.Merged(n, l, other)
	for _, question := range []string{"specimens", "specimen ", "machine", "open", "seals "} {
		archive.Answer(n, l, question+specimen)
	}
}

// longerBy returns a slice with room behind it that has further items.
func longerBy[T any](list []T, further T) []T {
	return append(slices.Clone(list), further, further)[:len(list)]
}

// R3: no argument is changed, nor what lies behind it in memory.
func TestArgumentsStay(t *testing.T) {
	n := wideNet()
	n.Persons = longerBy(n.Persons, person("?", -1))
	n.Channels = longerBy(n.Channels, channel("?", 0, 0, 0))
	n.Gates = longerBy(n.Gates, gate("?", -1))
	n.Machine.Flags = longerBy(n.Machine.Flags, "?")
	n.Machine.Actions = longerBy(n.Machine.Actions, action("?", "+9", "-9"))
	n.Machine.Harms = longerBy(n.Machine.Harms, test("+9"))
	n.Permits = api.SafetyTest{On: longerBy([]int{0}, -77), Off: longerBy(nil, -77)}
	l, other := longerBy(richLog(), entry("9 kim ?")), longerBy(wideLog(), entry("9 kim ?"))
	all(n, l, other, "wall", 0)
	all(n, other, l, "beam", 1)
	mustStay(t, "net", n, with(wideNet(), func(n *api.ArchiveNet) { n.Permits = test("+0") }))
	mustStay(t, "log", l, richLog())
	mustStay(t, "the other log", other, wideLog())
	for _, last := range [][]api.ArchiveEntry{l[len(l) : len(l)+2], other[len(other) : len(other)+2]} {
		mustStay(t, "behind a log", last, entries("9 kim ?", "9 kim ?"))
	}
	mustStay(t, "behind the persons", n.Persons[6:8], []api.ArchivePerson{person("?", -1), person("?", -1)})
	mustStay(t, "behind the channels", n.Channels[4:6], []api.ArchiveChannel{channel("?", 0, 0, 0), channel("?", 0, 0, 0)})
	mustStay(t, "behind the gates", n.Gates[3:5], []api.SafetyGate{gate("?", -1), gate("?", -1)})
	mustStay(t, "behind the flags", n.Machine.Flags[2:4], []string{"?", "?"})
	mustStay(t, "behind the actions", n.Machine.Actions[4:6], []api.SafetyAction{action("?", "+9", "-9"), action("?", "+9", "-9")})
	mustStay(t, "behind the harms", n.Machine.Harms[1:3], []api.SafetyTest{test("+9"), test("+9")})
	mustStay(t, "behind what is permitted", append(n.Permits.On[1:3], n.Permits.Off[:2]...), []int{-77, -77, -77, -77})
}

// R2: no function panics, whatever its arguments are.
func TestNoPanic(t *testing.T) {
	nets := []api.ArchiveNet{{}, wideNet()}
	for _, b := range badNets() {
		nets = append(nets, b.n)
	}
	nets = append(nets, with(wideNet(), func(n *api.ArchiveNet) { n.Machine.Harms = make([]api.SafetyTest, 1000000) }))
	logs := [][]api.ArchiveEntry{nil, richLog(), make([]api.ArchiveEntry, 2), {{At: math.MinInt, By: "ann", Text: "note "}}}
	for i, n := range nets {
		number := []int{0, -1, math.MaxInt, math.MinInt}[i%4]
		for _, l := range logs {
			all(n, l, richLog(), strings.Repeat("x", i%3), number)
		}
	}
}

// R4: calls at the same time have the same results.
func TestAtTheSameTime(t *testing.T) {
	n, l := wideNet(), richLog()
	want := stateAfter(t, n, l)
	states := make([]api.ArchiveState, 8)
	var group sync.WaitGroup
	for i := range states {
		group.Go(func() {
			all(n, l, wideLog(), "wall", i)
			states[i], _ = archive.StateOf(n, l)
		})
	}
	group.Wait()
	for _, s := range states {
		mustStay(t, "state", s, want)
	}
}

// R5: nil and empty slices are the same.
func TestNilAndEmpty(t *testing.T) {
	for _, none := range [][]int{nil, {}} {
		n := with(exampleNet(), func(n *api.ArchiveNet) { n.Permits.Off, n.Machine.Actions[0].Needs.On = none, none })
		s := stateAfter(t, n, doneLog())
		mustStay(t, "state", s, stateAfter(t, exampleNet(), doneLog()))
	}
	for _, none := range [][]api.ArchiveEntry{nil, {}} {
		journal, e := archive.JournalOf(none)
		mustBe(t, "journal", journal, e, "", api.OK)
		for _, other := range [][]api.ArchiveEntry{nil, {}} {
			merged, e := archive.Merged(exampleNet(), none, other)
			mustBe(t, "merged", merged, e, nil, api.OK)
		}
		mustBe(t, "append", 0, archive.MayAppend(exampleNet(), none, entry("0 zoe note ")), 0, api.OK)
	}
}
