package model_test

import (
	"slices"
	"testing"

	"ductility/api"
	"ductility/model"
)

// P5.5
func TestBegin(t *testing.T) {
	zero := holdOf(0, slipped(0))
	for _, x := range []struct {
		name string
		f    api.ModelFrame
		want api.ModelState
	}{
		{"example", exampleFrame(), api.ModelState{Now: []int{0, 0}, Before: []int{0, 0}, Holds: []api.ModelHold{zero, zero}}},
		{"one floor", frameOf(floorOf(1, 1, exampleSpring()...)), api.ModelState{Now: []int{0}, Before: []int{0}, Holds: []api.ModelHold{holdOf(0, slipped(0), slipped(0))}}},
	} {
		s, e := model.BeginOf(x.f)
		if !areSame(s, x.want) || e != api.OK {
			t.Error(x.name, s, e)
		}
		if i, e := model.CheckState(x.f, s); i != 0 || e != api.OK {
			t.Error(x.name, i, e)
		}
	}
}

// P5.5
func TestCheckState(t *testing.T) {
	change := func(change func(s *api.ModelState)) api.ModelState {
		s := exampleState()
		change(&s)
		return s
	}
	for _, s := range []api.ModelState{
		exampleState(),
		change(func(s *api.ModelState) { s.Before = []int{10000, -10000} }),
		change(func(s *api.ModelState) { s.Now[1] = 20; s.Holds[1] = holdOf(20, slipped(10)) }),
		change(func(s *api.ModelState) {
			s.Now = []int{-20, -40}
			s.Holds = []api.ModelHold{holdOf(-20, slipped(-10)), holdOf(-20, slipped(-30))}
		}),
	} {
		if i, e := model.CheckState(exampleFrame(), s); i != 0 || e != api.OK {
			t.Error(s, i, e)
		}
	}
	for _, x := range badStates() {
		if i, e := model.CheckState(exampleFrame(), x.s); i != x.index || e != x.want {
			t.Error(x.name, i, e)
		}
	}
}

// P5.5: the errors of the state come before that of the acceleration, and this before a collapse.
func TestStateErrors(t *testing.T) {
	for _, x := range badStates() {
		for _, ground := range []int{0, 101} {
			if s, e := model.StepOf(exampleFrame(), x.s, ground); !isNothing(s) || e != x.want {
				t.Error("StepOf", x.name, s, e)
			}
			if b, e := model.BalanceOf(exampleFrame(), x.s, ground); !isNothing(b) || e != x.want {
				t.Error("BalanceOf", x.name, b, e)
			}
		}
	}
	for _, ground := range badGrounds() {
		if s, e := model.StepOf(exampleFrame(), exampleState(), ground); !isNothing(s) || e != api.ErrRange {
			t.Error("StepOf", ground, s, e)
		}
		if b, e := model.BalanceOf(exampleFrame(), exampleState(), ground); !isNothing(b) || e != api.ErrRange {
			t.Error("BalanceOf", ground, b, e)
		}
	}
}

// weak returns a frame of one floor whose storey yields at once.
func weak(mass, limit int) api.ModelFrame { return frameOf(floorOf(mass, limit, ductile(1, 1))) }

// weakState returns a state of such a frame, at a place, coming from another one.
func weakState(now, before int) api.ModelState {
	slip := now - max(-1, min(1, now))
	return api.ModelState{Now: []int{now}, Before: []int{before}, Holds: []api.ModelHold{holdOf(now, slipped(slip))}}
}

// P5.5, example 6
func TestSteps(t *testing.T) {
	cracked := frameOf(floorOf(3, 50, brittle(2, 5), ductile(1, 3)))
	for _, x := range []struct {
		name   string
		f      api.ModelFrame
		s      api.ModelState
		ground int
		want   api.ModelState
		e      api.Errno
	}{
		{"example", exampleFrame(), exampleState(), 0, api.ModelState{Now: []int{3, -3}, Before: []int{0, 6}, Holds: []api.ModelHold{holdOf(3, slipped(0)), holdOf(-6, slipped(0))}}, api.OK},
		{"rounded down below 0", weak(2, 9), weakState(1, 1), 0, weakState(0, 1), api.OK},
		{"rounded down above 0", weak(2, 9), weakState(-1, -1), 0, weakState(-1, -1), api.OK},
		{"the greatest acceleration", weak(2, 200), weakState(0, 0), 100, weakState(-100, 0), api.OK},
		{"the smallest acceleration", weak(2, 200), weakState(0, 0), -100, weakState(100, 0), api.OK},
		{"exactly the limit", weak(1, 100), weakState(0, 0), -100, weakState(100, 0), api.OK},
		{"beyond the limit", weak(1, 99), weakState(0, 0), -100, api.ModelState{}, api.ErrBreak},
		{"beyond the limit below", weak(1, 99), weakState(0, 0), 100, api.ModelState{}, api.ErrBreak},
		{"exactly the limit below", weak(1, 100), weakState(0, 0), 100, weakState(-100, 0), api.OK},
		{"from far away", weak(1, 9), weakState(0, 10000), 0, api.ModelState{}, api.ErrBreak},
		{"it cracks", cracked, api.ModelState{Now: []int{5}, Before: []int{1}, Holds: []api.ModelHold{holdOf(5, slipped(0), slipped(2))}}, 1,
			api.ModelState{Now: []int{3}, Before: []int{5}, Holds: []api.ModelHold{holdOf(3, slipped(0), slipped(2))}}, api.OK},
		{"it cracks in the step", cracked, api.ModelState{Now: []int{5}, Before: []int{1}, Holds: []api.ModelHold{holdOf(5, slipped(0), slipped(2))}}, -4,
			api.ModelState{Now: []int{8}, Before: []int{5}, Holds: []api.ModelHold{holdOf(8, broken(), slipped(5))}}, api.OK},
	} {
		if s, e := model.StepOf(x.f, x.s, x.ground); !areSame(s, x.want) || e != x.e {
			t.Error(x.name, s, e)
		}
	}
}

// P5.5: the upper storey collapses although its floor stays, as the floor below moves away.
func TestUpperStoreyCollapses(t *testing.T) {
	f := frameOf(floorOf(1, 9, ductile(1, 1)), floorOf(1, 5, ductile(1, 1)))
	s := api.ModelState{Now: []int{0, 0}, Before: []int{5, 0}, Holds: []api.ModelHold{holdOf(0, slipped(0)), holdOf(0, slipped(0))}}
	want := api.ModelState{Now: []int{-5, 0}, Before: []int{0, 0}, Holds: []api.ModelHold{holdOf(-5, slipped(-4)), holdOf(5, slipped(4))}}
	if s, e := model.StepOf(f, s, 0); !areSame(s, want) || e != api.OK {
		t.Error("exactly the limit", s, e)
	}
	f.Floors[1].Limit = 4
	if s, e := model.StepOf(f, s, 0); !isNothing(s) || e != api.ErrBreak {
		t.Error("beyond the limit", s, e)
	}
}

// P5.5, example 7
func TestBalances(t *testing.T) {
	for _, x := range []struct {
		name   string
		f      api.ModelFrame
		s      api.ModelState
		ground int
		want   api.ModelBalance
	}{
		{"example", exampleFrame(), exampleState(), 0, api.ModelBalance{Kinetic: 72, Springs: 72}},
		// The floors move by 0 and -6 in the step, and by -3 and 3 before it.
		{"with the ground", exampleFrame(), exampleState(), 3, api.ModelBalance{Kinetic: 2*(0-9) + 144 - 9, Springs: 12*-3 + -12*-9, Ground: -2*3*-3 - 1*3*-9}},
		{"it collapses", weak(1, 99), weakState(0, 0), -100, api.ModelBalance{Kinetic: 10000, Ground: 10000}},
		{"with a rest", weak(3, 9), weakState(1, 0), 0, api.ModelBalance{Kinetic: 3 * (0 - 1), Springs: -1, Rest: 2}},
		{"with a rest below 0", weak(3, 9), weakState(-1, 0), 0, api.ModelBalance{Kinetic: 0, Springs: -2, Rest: -2}},
		{"at rest", weak(3, 9), weakState(0, 0), 0, api.ModelBalance{}},
	} {
		if b, e := model.BalanceOf(x.f, x.s, x.ground); b != x.want || e != api.OK {
			t.Error(x.name, b, e)
		}
	}
}

// P5.5, P5.11: the greatest numbers that there can be.
func TestGreatestBalance(t *testing.T) {
	strong := ductile(api.MaxModelStiffness, api.MaxModelStiffness)
	for _, mass := range []int{1, 3, api.MaxModelMass} {
		var f api.ModelFrame
		var s api.ModelState
		for i := range api.MaxModelFloors {
			f.Floors = append(f.Floors, floorOf(mass, api.MaxModelLimit, strong, strong, strong, strong))
			drift := api.MaxModelLimit
			if i%2 == 1 {
				drift = -drift
			}
			s.Holds = append(s.Holds, holdOf(drift, slices.Repeat([]api.ModelSlip{slipped(0)}, 4)...))
			s.Now = append(s.Now, (drift+api.MaxModelLimit)/2)
			s.Before = append(s.Before, api.MaxModelPlace)
		}
		if i, e := model.CheckState(f, s); i != 0 || e != api.OK {
			t.Fatal(i, e)
		}
		for _, ground := range []int{-api.MaxModelGround, api.MaxModelGround} {
			b, e := model.BalanceOf(f, s, ground)
			if b != balanceByHand(f, s, ground) || b.Kinetic != b.Springs+b.Ground-b.Rest || b.Springs == 0 || e != api.OK {
				t.Error(mass, ground, b, e)
			}
			if after, e := model.StepOf(f, s, ground); !isNothing(after) || e != api.ErrBreak {
				t.Error(mass, ground, after, e)
			}
		}
	}
}
