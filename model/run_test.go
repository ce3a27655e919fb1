package model_test

import (
	"slices"
	"testing"

	"ductility/api"
	"ductility/model"
)

// P5.6
func TestMotionErrors(t *testing.T) {
	for _, x := range badMotions() {
		if l, storey, e := model.RunOf(exampleFrame(), x.motion); len(l) != 0 || storey != 0 || e != x.want {
			t.Error("RunOf", x.name, l, storey, e)
		}
		if l, e := model.PeaksOf(exampleFrame(), x.motion); len(l) != 0 || e != x.want {
			t.Error("PeaksOf", x.name, l, e)
		}
	}
}

// nowIn returns the displacements of states.
func nowIn(states []api.ModelState) [][]int {
	var all [][]int
	for _, s := range states {
		all = append(all, s.Now)
	}
	return all
}

// P5.6, examples 6 and 8, and edge cases
func TestRuns(t *testing.T) {
	lower := exampleFrame()
	lower.Floors[1].Limit = 5
	both := exampleFrame()
	both.Floors[0].Limit, both.Floors[1].Limit = 2, 1
	for _, x := range []struct {
		name   string
		f      api.ModelFrame
		motion []int
		want   [][]int
		storey int
		peaks  []int
	}{
		{"example", exampleFrame(), []int{-3, 0, 0}, [][]int{{0, 0}, {3, 3}, {0, 6}, {3, -3}}, -1, []int{3, 6}},
		{"the upper storey collapses", lower, []int{-3, 0, 0}, [][]int{{0, 0}, {3, 3}}, 1, []int{3, 0}},
		{"the lower storey collapses", both, []int{-3, 0, 0}, [][]int{{0, 0}}, 0, []int{0, 0}},
		{"nothing", exampleFrame(), nil, [][]int{{0, 0}}, -1, []int{0, 0}},
		{"no accelerations", exampleFrame(), []int{}, [][]int{{0, 0}}, -1, []int{0, 0}},
		{"no motion", exampleFrame(), []int{0, 0}, [][]int{{0, 0}, {0, 0}, {0, 0}}, -1, []int{0, 0}},
		{"a peak below 0", weak(1, 9), []int{2, -4}, [][]int{{0}, {-2}, {1}}, -1, []int{-2}},
		{"exactly the limit", weak(1, 100), []int{100}, [][]int{{0}, {-100}}, -1, []int{-100}},
		{"beyond the limit", weak(1, 99), []int{-100, 0}, [][]int{{0}}, 0, []int{0}},
	} {
		states, storey, e := model.RunOf(x.f, x.motion)
		if !areSame(nowIn(states), x.want) || storey != x.storey || e != api.OK {
			t.Error(x.name, states, storey, e)
		}
		if peaks, e := model.PeaksOf(x.f, x.motion); !slices.Equal(peaks, x.peaks) || e != api.OK {
			t.Error(x.name, peaks, e)
		}
	}
	states, _, _ := model.RunOf(exampleFrame(), []int{-3, 0, 0})
	if !areSame(states[2], exampleState()) {
		t.Error(states[2])
	}
}

// P5.6: the lowest storey collapses, if the limits of several are exceeded in one step.
func TestLowestCollapses(t *testing.T) {
	for _, x := range []struct{ lower, upper, want, count int }{{19, 5, 0, 2}, {20, 5, 1, 2}, {19, 6, 0, 2}, {20, 6, -1, 3}} {
		f := exampleFrame()
		f.Floors[0].Limit, f.Floors[1].Limit = x.lower, x.upper
		// The displacements are 3, 3 and then 20, 26.
		states, storey, e := model.RunOf(f, []int{-3, -20})
		if len(states) != x.count || storey != x.want || e != api.OK {
			t.Error(x, states, storey, e)
		}
	}
}

// pushesByHand returns the push on each floor.
func pushesByHand(f api.ModelFrame, s api.ModelState) []int {
	pushes := make([]int, len(f.Floors))
	for i, floor := range f.Floors {
		force := 0
		for k, x := range floor.Spring {
			if slip := s.Holds[i].Slips[k]; !slip.Broken {
				force += x.Stiffness * (s.Holds[i].At - slip.Slip)
			}
		}
		pushes[i] -= force
		if i > 0 {
			pushes[i-1] += force
		}
	}
	return pushes
}

// quotient returns a quotient rounded down, and what it leaves.
func quotient(n, divisor int) (int, int) {
	down := n / divisor
	for down*divisor > n {
		down--
	}
	return down, n - down*divisor
}

// nextByHand returns the displacements after a step.
func nextByHand(f api.ModelFrame, s api.ModelState, ground int) []int {
	var next []int
	for i, push := range pushesByHand(f, s) {
		down, _ := quotient(push, f.Floors[i].Mass)
		next = append(next, 2*s.Now[i]-s.Before[i]+down-ground)
	}
	return next
}

// balanceByHand returns the balance of a step.
func balanceByHand(f api.ModelFrame, s api.ModelState, ground int) api.ModelBalance {
	var b api.ModelBalance
	next, pushes := nextByHand(f, s, ground), pushesByHand(f, s)
	for i, floor := range f.Floors {
		v, u := next[i]-s.Now[i], s.Now[i]-s.Before[i]
		_, rest := quotient(pushes[i], floor.Mass)
		b.Kinetic += floor.Mass * (v*v - u*u)
		b.Springs += pushes[i] * (v + u)
		b.Ground -= floor.Mass * ground * (v + u)
		b.Rest += rest * (v + u)
	}
	return b
}

// stepByHand returns the state after a step, and the storey that collapses, or -1.
func stepByHand(f api.ModelFrame, s api.ModelState, ground int) (api.ModelState, int) {
	next := api.ModelState{Now: nextByHand(f, s, ground), Before: s.Now}
	below := 0
	for i, place := range next.Now {
		drift := place - below
		if max(drift, -drift) > f.Floors[i].Limit {
			return api.ModelState{}, i
		}
		hold, _ := moveByHand(f.Floors[i].Spring, s.Holds[i], drift)
		next.Holds = append(next.Holds, hold)
		below = place
	}
	return next, -1
}

// peaksByHand returns the first drift of greatest size of each storey.
func peaksByHand(f api.ModelFrame, states []api.ModelState) []int {
	peaks := make([]int, len(f.Floors))
	for i := range peaks {
		for _, s := range states {
			drift := s.Now[i]
			if i > 0 {
				drift -= s.Now[i-1]
			}
			if max(drift, -drift) > max(peaks[i], -peaks[i]) {
				peaks[i] = drift
			}
		}
	}
	return peaks
}

// P5.5, P5.6, P5.11, P5.13
func TestRunsByHand(t *testing.T) {
	random := fixedRandom()
	collapsed, rests := map[bool]int{}, 0
	for range 600 {
		f, motion := someFrame(random), someMotion(random)
		s, _ := model.BeginOf(f)
		want, wantStorey := []api.ModelState{s}, -1
		sum := 0
		for _, floor := range f.Floors {
			sum += floor.Limit
		}
		for _, ground := range motion {
			next, storey := stepByHand(f, s, ground)
			got, e := model.StepOf(f, s, ground)
			if !areSame(got, next) || storey < 0 && e != api.OK || storey >= 0 && e != api.ErrBreak {
				t.Fatal(f, s, ground, got, e, next)
			}
			b, e := model.BalanceOf(f, s, ground)
			if b != balanceByHand(f, s, ground) || b.Kinetic != b.Springs+b.Ground-b.Rest || e != api.OK {
				t.Fatal(f, s, ground, b, e)
			}
			rests += max(b.Rest, -b.Rest)
			if storey >= 0 {
				wantStorey = storey
				break
			}
			if i, e := model.CheckState(f, next); i != 0 || e != api.OK {
				t.Fatal(f, next, i, e)
			}
			if slices.Max(next.Now) > sum || slices.Min(next.Now) < -sum {
				t.Fatal("too far", f, next)
			}
			want = append(want, next)
			s = next
		}
		collapsed[wantStorey >= 0]++
		states, storey, e := model.RunOf(f, motion)
		if !areSame(states, want) || storey != wantStorey || e != api.OK {
			t.Fatal(f, motion, states, storey, e, want)
		}
		if peaks, e := model.PeaksOf(f, motion); !slices.Equal(peaks, peaksByHand(f, want)) || e != api.OK {
			t.Fatal(f, motion, peaks, e)
		}
		part := motion[:random.IntN(len(motion)+1)]
		shorter, storey, e := model.RunOf(f, part)
		if !areSame(shorter, states[:min(len(part)+1, len(states))]) || storey != -1 && storey != wantStorey || e != api.OK {
			t.Fatal(f, part, shorter, storey, e)
		}
	}
	if collapsed[true] < 50 || collapsed[false] < 50 || rests == 0 {
		t.Error(collapsed, rests)
	}
}

// P5.11
func TestNoRestOfUnits(t *testing.T) {
	random := fixedRandom()
	for range 300 {
		f := someFrame(random)
		for i := range f.Floors {
			f.Floors[i].Mass = 1
		}
		states, _, _ := model.RunOf(f, someMotion(random))
		for _, s := range states {
			if b, e := model.BalanceOf(f, s, within(random, 100)); b.Rest != 0 || b.Kinetic != b.Springs+b.Ground || e != api.OK {
				t.Fatal(f, s, b, e)
			}
		}
	}
}

// P5.13
func TestNothingMovesWithoutMotion(t *testing.T) {
	random := fixedRandom()
	for range 100 {
		f := someFrame(random)
		begin, _ := model.BeginOf(f)
		motion := make([]int, random.IntN(api.MaxModelSteps+1))
		states, storey, e := model.RunOf(f, motion)
		if len(states) != len(motion)+1 || storey != -1 || e != api.OK {
			t.Fatal(f, len(states), storey, e)
		}
		for _, s := range states {
			mustStay(t, "state", s, begin)
		}
	}
}

// P5.6: sixty accelerations are permitted.
func TestLongestRun(t *testing.T) {
	states, storey, e := model.RunOf(greatFrame(), slices.Repeat([]int{100, -100, -100, 100}, 15))
	if len(states) != 61 || storey != -1 || e != api.OK {
		t.Error(len(states), storey, e)
	}
	if peaks, e := model.PeaksOf(greatFrame(), make([]int, 60)); !slices.Equal(peaks, make([]int, 5)) || e != api.OK {
		t.Error(peaks, e)
	}
}
