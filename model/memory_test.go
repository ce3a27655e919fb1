package model_test

import (
	"slices"
	"testing"

	"ductility/api"
	"ductility/model"
)

// spoil overwrites a slice, and what follows it in memory.
func spoil[T any](list []T, by T) {
	for i := range list[:cap(list)] {
		list[:cap(list)][i] = by
	}
}

// spoilHold overwrites a hold.
func spoilHold(h api.ModelHold) { spoil(h.Slips, api.ModelSlip{Slip: -77, Broken: true}) }

// spoilState overwrites a state.
func spoilState(s api.ModelState) {
	spoil(s.Now, -77)
	spoil(s.Before, 77)
	for _, h := range s.Holds {
		spoilHold(h)
	}
	spoil(s.Holds, api.ModelHold{At: 77})
}

// copied returns a state in memory of its own.
func copied(s api.ModelState) api.ModelState {
	c := api.ModelState{Now: slices.Clone(s.Now), Before: slices.Clone(s.Before)}
	for _, h := range s.Holds {
		c.Holds = append(c.Holds, api.ModelHold{At: h.At, Slips: slices.Clone(h.Slips)})
	}
	return c
}

// R3: states of a run are overwritten, one after the other, and the others are as before.
func TestStatesShareNoMemory(t *testing.T) {
	f := exampleFrame()
	for _, motion := range [][]int{{-3, 0, 0, 1}, {0, 0, 0, 0}} {
		states, _, _ := model.RunOf(f, motion)
		var wanted []api.ModelState
		for _, s := range states {
			wanted = append(wanted, copied(s))
		}
		for i, s := range states {
			mustStay(t, "later states", states[i:], wanted[i:])
			spoilState(s)
		}
		states, _, _ = model.RunOf(f, motion)
		for i, s := range slices.Backward(states) {
			mustStay(t, "earlier states", states[:i+1], wanted[:i+1])
			spoilState(s)
		}
	}
	mustStay(t, "frame", f, exampleFrame())
}

// R3: parts of one state are overwritten, and the others are as before.
func TestPartsOfStatesShareNoMemory(t *testing.T) {
	begin, _ := model.BeginOf(exampleFrame())
	still, _ := model.StepOf(exampleFrame(), begin, 0)
	for _, s := range []api.ModelState{begin, still} {
		spoil(s.Now, 5)
		spoilHold(s.Holds[0])
		if !slices.Equal(s.Before, []int{0, 0}) || !areSame(s.Holds[1], holdOf(0, slipped(0))) {
			t.Error(s)
		}
	}
}

// R3: results share no memory with arguments, and the rows of a matrix none with each other.
func TestResultsShareNoMemory(t *testing.T) {
	l, h, s := exampleSpring(), holdOf(0, slipped(0), slipped(0)), exampleState()
	same, _ := model.MovedTo(l, h, 0)
	spoilHold(same)
	mustStay(t, "hold", h, holdOf(0, slipped(0), slipped(0)))
	next, _ := model.StepOf(exampleFrame(), s, 0)
	spoilState(next)
	mustStay(t, "state", s, exampleState())
	rows, _ := model.StiffnessOf(exampleFrame())
	spoil(rows[0], 77)
	if !slices.Equal(rows[1], []int{-2, 2}) {
		t.Error(rows)
	}
	f, _ := model.ParseFrame(frameText)
	spoil(f.Floors[0].Spring, brittle(77, 77))
	if !areSame(f.Floors[1], exampleFrame().Floors[1]) {
		t.Error(f)
	}
}

// R3: no argument is changed, nor what lies behind it in memory.
func TestArgumentsStay(t *testing.T) {
	f, s, l, h := exampleFrame(), exampleState(), exampleSpring(), goodHolds()[2]
	spring := append(springOf(), l...)
	motion, forces := []int{-3, 0, 0}, []int{6, 4}
	full, own := []int{320, 160}, []int{5, 10}
	law := lawOf([]int{1, 0, 0}, []int{0, 1, 1})
	model.CheckFrame(f)
	model.StiffnessOf(f)
	model.DriftsUnder(f, forces)
	model.BeginOf(f)
	model.CheckState(f, s)
	model.StepOf(f, s, 5)
	model.BalanceOf(f, s, 5)
	model.RunOf(f, motion)
	model.PeaksOf(f, motion)
	model.FormatFrame(f)
	model.CheckHold(l, h)
	model.MovedTo(l, h, -9)
	model.WorkTo(l, h, -9)
	model.ForceOf(l, h)
	model.EnergyOf(l, h)
	model.BackboneAt(l, 5)
	model.CheckLaw(law)
	model.RankOf(law.Quantities)
	model.AddedFor(exampleScales(), full, own)
	mustStay(t, "frame", f, exampleFrame())
	mustStay(t, "state", s, exampleState())
	mustStay(t, "spring", l, spring)
	mustStay(t, "hold", h, goodHolds()[2])
	mustStay(t, "motion", motion, []int{-3, 0, 0})
	mustStay(t, "forces", forces, []int{6, 4})
	mustStay(t, "masses", [][]int{full, own}, [][]int{{320, 160}, {5, 10}})
	mustStay(t, "law", law, lawOf([]int{1, 0, 0}, []int{0, 1, 1}))
}

// R4: what is called again returns the same, although maps have no order.
func TestTheSameAgain(t *testing.T) {
	s := [3]api.Frac{frac(30, 77), frac(91, 66), frac(34, 95)}
	want, e := model.FactorOf(s, [3]int{1, -1, 1})
	large, largeError := model.FactorOf(s, [3]int{4, -4, 4})
	for range 100 {
		if f, again := model.FactorOf(s, [3]int{1, -1, 1}); f != want || again != e {
			t.Fatal(f, again, want, e)
		}
		if f, again := model.FactorOf(s, [3]int{4, -4, 4}); f != large || again != largeError {
			t.Fatal(f, again, large, largeError)
		}
	}
}
