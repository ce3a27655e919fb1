package safety_test

import (
	"math"
	"testing"

	"ductility/api"
	"ductility/safety"
)

// P9.1
func TestCheckMachine(t *testing.T) {
	for _, m := range goodMachines() {
		index, e := safety.CheckMachine(m)
		mustBe(t, m, index, e, 0, api.OK)
	}
	for _, b := range badMachines() {
		index, e := safety.CheckMachine(b.m)
		mustBe(t, b.name, index, e, b.index, b.want)
	}
	random := fixedRandom()
	for range 300 {
		m := someMachine(random)
		index, e := safety.CheckMachine(m)
		mustBe(t, m, index, e, 0, api.OK)
	}
}

// P9.1: flags come before actions, these before harms.
func TestOrderOfParts(t *testing.T) {
	m := exampleMachine()
	m.Harms = tests("+1", "+2+1", "+0-0")
	index, e := safety.CheckMachine(m)
	mustBe(t, "harm", index, e, 1, api.ErrOrder)
	m.Actions[3].Does = test("+0-0")
	m.Actions[4].Name = "open"
	index, e = safety.CheckMachine(m)
	mustBe(t, "does", index, e, 3, api.ErrClash)
	m.Actions[3].Needs = test("-7")
	index, e = safety.CheckMachine(m)
	mustBe(t, "needs", index, e, 3, api.ErrMissing)
	m.Actions[3].Name = "turn"
	index, e = safety.CheckMachine(m)
	mustBe(t, "twice", index, e, 3, api.ErrExists)
	m.Actions[3].Name = "3"
	index, e = safety.CheckMachine(m)
	mustBe(t, "no name", index, e, 3, api.ErrName)
	m.Actions[2].Needs = test("-2-1")
	index, e = safety.CheckMachine(m)
	mustBe(t, "earlier action", index, e, 2, api.ErrOrder)
	m.Flags[2] = "key"
	index, e = safety.CheckMachine(m)
	mustBe(t, "flag", index, e, 2, api.ErrExists)
	m.Flags[1] = "?"
	index, e = safety.CheckMachine(m)
	mustBe(t, "earlier flag", index, e, 1, api.ErrName)
	m.Harms = make([]api.SafetyTest, 5)
	index, e = safety.CheckMachine(m)
	mustBe(t, "too many harms", index, e, 0, api.ErrLarge)
}

// P9.1
func TestCheckState(t *testing.T) {
	for _, m := range goodMachines() {
		count := statesOf(m)
		for state := range count {
			if e := safety.CheckState(m, state); e != api.OK {
				t.Error(m, state, e)
			}
		}
		for _, state := range []int{-1, -2, count, count + 1, 2 * count, math.MaxInt, math.MinInt} {
			if e := safety.CheckState(m, state); e != api.ErrRange {
				t.Error(m, state, e)
			}
		}
	}
	for _, b := range badMachines() {
		for _, state := range []int{0, -1, 999} {
			if e := safety.CheckState(b.m, state); e != b.want {
				t.Error(b.name, state, e, b.want)
			}
		}
	}
}

// P9.1, example 1
func TestActionsFrom(t *testing.T) {
	for state, want := range [][]int{{0, 1, 2, 4}, {0, 1, 2, 3, 4}, {0, 1, 2, 4}, {0, 1, 2, 4}, {1, 2, 4}, {1, 2, 3, 4}, {1, 2, 4}, {1, 2, 4}} {
		actions, e := safety.ActionsFrom(exampleMachine(), state)
		mustBe(t, state, actions, e, want, api.OK)
	}
	actions, e := safety.ActionsFrom(api.SafetyMachine{Flags: letters(1)}, 1)
	mustBe(t, "no actions", actions, e, nil, api.OK)
	impossible := api.SafetyMachine{Flags: letters(2), Actions: []api.SafetyAction{action("a", "+1", ""), action("b", "+0+1", "")}}
	for state, want := range [][]int{nil, nil, {0}, {0, 1}} {
		actions, e := safety.ActionsFrom(impossible, state)
		mustBe(t, state, actions, e, want, api.OK)
	}
	// What is possible does not depend on harms.
	always := with(exampleMachine(), func(m *api.SafetyMachine) { m.Harms = tests("") })
	actions, e = safety.ActionsFrom(always, 1)
	mustBe(t, "in a harm", actions, e, ints(0, 1, 2, 3, 4), api.OK)
}

// P9.1, example 1, and edge cases: an action may change nothing.
func TestNextBy(t *testing.T) {
	for _, y := range []struct{ state, action, want int }{
		{0, 0, 2}, {0, 1, 0}, {0, 2, 1}, {0, 4, 0}, {1, 3, 5}, {1, 0, 3}, {3, 0, 3}, {3, 1, 1}, {3, 2, 3},
		{4, 1, 4}, {4, 2, 5}, {4, 4, 0}, {5, 3, 5}, {5, 4, 1}, {6, 1, 4}, {7, 1, 5}, {7, 2, 7}, {7, 4, 3},
	} {
		next, e := safety.NextBy(exampleMachine(), y.state, y.action)
		mustBe(t, y, next, e, y.want, api.OK)
	}
	for _, y := range [][2]int{{4, 0}, {5, 0}, {7, 0}, {0, 3}, {2, 3}, {3, 3}, {4, 3}, {7, 3}} {
		next, e := safety.NextBy(exampleMachine(), y[0], y[1])
		mustFail(t, y, next, e, api.ErrState)
	}
	for _, action := range []int{-1, 5, 6, math.MaxInt, math.MinInt} {
		next, e := safety.NextBy(exampleMachine(), 0, action)
		mustFail(t, action, next, e, api.ErrMissing)
	}
	next, e := safety.NextBy(api.SafetyMachine{Flags: letters(1)}, 0, 0)
	mustFail(t, "no actions", next, e, api.ErrMissing)
	next, e = safety.NextBy(greatMachine(), 255, 9)
	mustBe(t, "clear", next, e, 0, api.OK)
	next, e = safety.NextBy(greatMachine(), 255, 8)
	mustBe(t, "nothing", next, e, 255, api.OK)
	next, e = safety.NextBy(greatMachine(), 127, 7)
	mustBe(t, "the last flag", next, e, 255, api.OK)
}

// P9.1: by hand
func TestStepsByHand(t *testing.T) {
	random := fixedRandom()
	for range 200 {
		m := someMachine(random)
		for state := range statesOf(m) {
			want := possibleByHand(m, state)
			actions, e := safety.ActionsFrom(m, state)
			mustBe(t, m, actions, e, want, api.OK)
			for action := range m.Actions {
				next, e := safety.NextBy(m, state, action)
				if holdsByHand(m.Actions[action].Needs, state) {
					mustBe(t, m, next, e, nextByHand(m.Actions[action], state), api.OK)
				} else {
					mustFail(t, m, next, e, api.ErrState)
				}
			}
		}
	}
}

// P9.1: the errors of the machine come first, then those of the state.
func TestErrorsOfMachines(t *testing.T) {
	for _, b := range badMachines() {
		for _, state := range []int{0, -1} {
			actions, e := safety.ActionsFrom(b.m, state)
			mustFail(t, b.name, actions, e, b.want)
			for _, action := range []int{0, -1} {
				next, e := safety.NextBy(b.m, state, action)
				mustFail(t, b.name, next, e, b.want)
			}
		}
	}
	for _, state := range badStates() {
		actions, e := safety.ActionsFrom(exampleMachine(), state)
		mustFail(t, state, actions, e, api.ErrRange)
		for _, action := range []int{0, 3, 9, -1} {
			next, e := safety.NextBy(exampleMachine(), state, action)
			mustFail(t, state, next, e, api.ErrRange)
		}
	}
}
