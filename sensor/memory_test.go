package sensor_test

import (
	"slices"
	"sync"
	"testing"

	"ductility/api"
	"ductility/sensor"
)

// spoil overwrites a slice, and what follows it in memory.
func spoil[T any](list []T, by T) {
	for i := range list[:cap(list)] {
		list[:cap(list)][i] = by
	}
}

// R3: results share no memory with arguments, nor with each other or with what is returned later.
func TestResultsShareNoMemory(t *testing.T) {
	for range 2 { // what is spoiled in the first round would be seen in the second one
		raw, one := []int{1, 2, 3}, line(1, 0, 1)
		corrected, e := sensor.CorrectedOf(one, raw)
		mustBe(t, "corrected", corrected, e, values(1, 1, 2, 3), api.OK)
		ranges, e := sensor.RangesIn(one, raw)
		mustBe(t, "ranges", ranges, e, list(to(0, 2), to(1, 3), to(2, 4)), api.OK)
		clipped, e := sensor.ClippedIn(raw, to(1, 3))
		mustBe(t, "clipped", clipped, e, list(to(0, 0), to(2, 2)), api.OK)
		stuck, e := sensor.StuckIn([]int{5, 5, 6}, 2)
		mustBe(t, "stuck", stuck, e, list(to(0, 1)), api.OK)
		curves, e := sensor.CurvesOf(raw)
		mustBe(t, "curves", curves, e, []int{0}, api.OK)
		strange, e := sensor.StrangeIn(raw, []int{0, 9, 0}, 0)
		mustBe(t, "strange", strange, e, []int{1}, api.OK)
		voters, e := sensor.VotersAt(rows(raw, raw), watch(0, 1, 1), 0)
		mustBe(t, "voters", voters, e, []int{0, 1}, api.OK)
		parsed, e := sensor.ParseRaw("1 2 3")
		mustBe(t, "parsed", parsed, e, raw, api.OK)
		for _, numbers := range [][]int{corrected.Parts, curves, strange, voters, parsed} {
			spoil(numbers, -77)
		}
		spoil(ranges, to(-77, 77))
		spoil(clipped, to(-77, 77))
		spoil(stuck, to(-77, 77))
		mustStay(t, "raw samples", raw, []int{1, 2, 3})
	}
}

// R3: explanations and signals that are undone share no memory with anything.
func TestExplanationsShareNoMemory(t *testing.T) {
	for range 2 { // what is spoiled in the first round would be seen in the second one
		x, measured := exampleTruth(), exampleMeasured()
		is, _, e := sensor.ExplanationOf(x, measured)
		mustBe(t, "explanation", is, e, exampleExplanation(), api.OK)
		again, _, _ := sensor.ExplanationOf(x, measured)
		straightOnes := explanation(straight(0), straight(1))
		signals, e := sensor.Undone(measured, straightOnes)
		mustBe(t, "undone", signals, e, exampleMeasured(), api.OK)
		spoil(is.Sources, -77)
		spoil(is.Reversed, true)
		mustStay(t, "the other explanation", again, exampleExplanation())
		spoil(signals[0], -77)
		mustStay(t, "the other signal", signals[1], []int{1, 4, 9})
		spoil(signals, nil)
		mustStay(t, "truth", x, exampleTruth())
		mustStay(t, "measured", measured, exampleMeasured())
		mustStay(t, "argument", straightOnes, explanation(straight(0), straight(1)))
		none, e := sensor.Undone(measured, explanation(straight(-1), straight(-1)))
		mustBe(t, "nothing", none, e, zeros(2, 3), api.OK)
		spoil(none[0], -77)
		mustStay(t, "the other signal of 0", none[1], []int{0, 0, 0})
	}
}

// R3: no argument is changed, nor what lies behind it in memory.
func TestArgumentsStay(t *testing.T) {
	memory := []int{1, 5, 9, 2, -4, 8, -2, 4, -7, 1, 4, 9, 77, 77}
	want := slices.Clone(memory)
	first, second := memory[:3], memory[3:6]
	x := api.SensorTruth{Signals: rows(first, second, memory[9:])[:2], Off: 1}
	measured := rows(memory[6:9], memory[9:12], memory[9:])[:2]
	sources, reversed := []int{1, 0, 77}, []bool{true, false, true}
	is := api.SensorExplanation{Sources: sources[:2], Reversed: reversed[:2]}
	pairs := append(examplePairs(), pairsOf(77, 77)...)
	image := rows([]int{0, 1, 77}[:2], []int{2, 1, 77}[:2], []int{77, 77})
	one := line(25, -15, 2)
	sensor.CalibrationOf(pairs[:3])
	sensor.CheckCalibration(pairs[:3], one)
	sensor.MisfitOf(pairs[:3], one)
	sensor.CorrectedOf(one, first)
	sensor.RangesIn(one, first)
	sensor.CheckRaw(first)
	sensor.ClippedIn(first, to(0, 3))
	sensor.StuckIn(first, 2)
	sensor.ShiftOf(first, second, 2)
	sensor.CurvesOf(first)
	sensor.StrangeIn(first, second, 1)
	sensor.CheckTruth(x)
	sensor.ExplanationOf(x, measured)
	sensor.CheckExplanation(x, measured, is)
	sensor.Undone(measured, is)
	sensor.TrippedIn(measured, watch(1, 1, 1))
	sensor.VotersAt(measured, watch(1, 1, 1), 1)
	sensor.CenterOf(image[:2])
	sensor.MovedBy(image[:2], image[:2])
	sensor.FormatRaw(first)
	mustStay(t, "numbers", memory, want)
	mustStay(t, "signals", x.Signals[:3], rows([]int{1, 5, 9}, []int{2, -4, 8}, []int{1, 4, 9, 77, 77}))
	mustStay(t, "measured", measured[:3], rows([]int{-2, 4, -7}, []int{1, 4, 9}, []int{1, 4, 9, 77, 77}))
	mustStay(t, "sources", sources, []int{1, 0, 77})
	mustStay(t, "reversed", reversed, []bool{true, false, true})
	mustStay(t, "pairs", pairs, append(examplePairs(), pairsOf(77, 77)...))
	mustStay(t, "image", rows(image[0][:3], image[1][:3], image[2]), rows([]int{0, 1, 77}, []int{2, 1, 77}, []int{77, 77}))
}

// R3: rows of an argument may be the same memory.
func TestSharedArguments(t *testing.T) {
	one := []int{3, -1}
	x := truth(0, one, one)
	is, cost, e := sensor.ExplanationOf(x, x.Signals)
	mustBe(t, "explanation", is, e, explanation(straight(0), straight(1)), api.OK)
	mustBe(t, "cost", cost, e, 0, api.OK)
	signals, e := sensor.Undone(x.Signals, explanation(reverse(1), straight(0)))
	mustBe(t, "undone", signals, e, rows([]int{3, -1}, []int{-3, 1}), api.OK)
}

// R4: calls at the same time have the same results.
func TestAtTheSameTime(t *testing.T) {
	x, measured := exampleTruth(), exampleMeasured()
	var group sync.WaitGroup
	results := make([]api.SensorExplanation, 8)
	for i := range results {
		group.Go(func() { results[i], _, _ = sensor.ExplanationOf(x, measured) })
	}
	group.Wait()
	for _, is := range results {
		mustStay(t, "explanation", is, exampleExplanation())
	}
}

// R5: nil and empty slices are the same.
func TestNilAndEmpty(t *testing.T) {
	for _, none := range [][]int{nil, {}} {
		index, e := sensor.CheckRaw(none)
		mustFail(t, "raw", index, e, api.ErrShape)
		index, e = sensor.CheckTruth(truth(0, []int{1}, none))
		mustBe(t, "truth", index, e, 1, api.ErrShape)
		is, e := sensor.CenterOf(rows(none))
		mustFail(t, "image", is, e, api.ErrShape)
		if s := sensor.FormatRaw(none); s != "" {
			t.Error(s)
		}
	}
	for _, none := range [][][]int{nil, {}} {
		for _, e := range []api.SensorExplanation{{}, {Sources: []int{}}, {Reversed: []bool{}}} {
			signals, err := sensor.Undone(none, e)
			mustFail(t, "undone", signals, err, api.ErrShape)
		}
	}
}
