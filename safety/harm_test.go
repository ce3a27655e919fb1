package safety_test

import (
	"math"
	"slices"
	"testing"

	"ductility/api"
	"ductility/safety"
)

// P9.2, example 1, and edge cases
func TestReachedFrom(t *testing.T) {
	always := with(exampleMachine(), func(m *api.SafetyMachine) { m.Harms = tests("") })
	running := with(exampleMachine(), func(m *api.SafetyMachine) { m.Harms = tests("+2") })
	none := with(exampleMachine(), func(m *api.SafetyMachine) { m.Actions = nil })
	for _, y := range []struct {
		name  string
		m     api.SafetyMachine
		state int
		want  []int
	}{
		{"example", exampleMachine(), 0, ints(0, 1, 2, 3, 5)},
		{"from another one", exampleMachine(), 4, ints(0, 1, 2, 3, 4, 5)},
		{"the key stays", exampleMachine(), 5, ints(1, 3, 5)},
		{"from a harm", exampleMachine(), 6, ints(6)},
		{"from the other harm", exampleMachine(), 7, ints(7)},
		{"to a harm", openMachine(), 0, ints(0, 1, 2, 3, 5, 7)},
		{"from 4", openMachine(), 4, ints(0, 1, 2, 3, 4, 5, 6, 7)},
		{"every state a harm", always, 3, ints(3)},
		{"nothing goes on after a harm", running, 4, ints(4)},
		{"nothing goes on after the harm 5", running, 0, ints(0, 1, 2, 3, 5)},
		{"no actions", none, 6, ints(6)},
		{"one by one", greatMachine(), 0, ints(0, 1, 3, 7, 15, 31, 63, 127, 255)},
		{"from one of four harms", greatMachine(), 32, ints(32)},
		{"from the last of four harms", greatMachine(), 128, ints(128)},
	} {
		reached, e := safety.ReachedFrom(y.m, y.state)
		mustBe(t, y.name, reached, e, y.want, api.OK)
	}
}

// P9.2, examples 1 and 2, and edge cases
func TestHarmFrom(t *testing.T) {
	always := with(exampleMachine(), func(m *api.SafetyMachine) { m.Harms = tests("") })
	for _, y := range []struct {
		name  string
		m     api.SafetyMachine
		state int
		want  []int
	}{
		{"example", openMachine(), 0, ints(2, 3, 0)},
		{"with the key", openMachine(), 1, ints(3, 0)},
		{"with the door open", openMachine(), 2, ints(1, 2, 3, 0)},
		{"running", openMachine(), 4, ints(0)},
		{"running with the key", openMachine(), 5, ints(0)},
		{"a harm itself", openMachine(), 6, nil},
		{"a harm itself, although open needs something", exampleMachine(), 7, nil},
		{"every state a harm", always, 0, nil},
		{"one by one", with(greatMachine(), func(m *api.SafetyMachine) { m.Harms = m.Harms[:1] }), 0, ints(0, 1, 2, 3, 4, 5, 6, 7)},
		{"none sooner", greatMachine(), 0, ints(0, 1, 2, 3, 4, 5, 6, 7)},
	} {
		actions, e := safety.HarmFrom(y.m, y.state)
		mustBe(t, y.name, actions, e, y.want, api.OK)
	}
	for state := range 6 {
		actions, e := safety.HarmFrom(exampleMachine(), state)
		mustFail(t, state, actions, e, api.ErrNone)
	}
	none := api.SafetyMachine{Flags: letters(2), Harms: tests("+0")}
	for state, want := range []api.Errno{api.ErrNone, api.OK, api.ErrNone, api.OK} {
		actions, e := safety.HarmFrom(none, state)
		mustFail(t, state, actions, e, want)
	}
}

// P9.2: of several shortest lists the lexicographically first one
func TestFirstHarm(t *testing.T) {
	m := api.SafetyMachine{
		Flags: letters(4),
		Actions: []api.SafetyAction{
			action("c", "+0", "+3"), action("b", "", "+1"), action("a", "", "+0"), action("d", "+1", "+3"), action("e", "+1", "+3"), action("f", "+2", "+3"),
		},
		Harms: tests("+3"),
	}
	actions, e := safety.HarmFrom(m, 0)
	mustBe(t, "by the action 1", actions, e, ints(1, 3), api.OK)
	m.Actions[3].Needs = test("+2")
	actions, e = safety.HarmFrom(m, 0)
	mustBe(t, "by the action 4", actions, e, ints(1, 4), api.OK)
	m.Actions[4].Needs = test("+2")
	actions, e = safety.HarmFrom(m, 0)
	mustBe(t, "by the action 2", actions, e, ints(2, 0), api.OK)
	m.Actions[1].Does = test("+0")
	actions, e = safety.HarmFrom(m, 0)
	mustBe(t, "by the action 1 again", actions, e, ints(1, 0), api.OK)
}

// P9.2, example 2
func TestBarredFor(t *testing.T) {
	two := api.SafetyMachine{
		Flags: letters(3),
		Actions: []api.SafetyAction{
			action("a", "+0", "+2"), action("b", "+1", "+2"), action("c", "-1", "+0"), action("d", "-0", "+1"), action("e", "", "-0-1"),
		},
		Harms: tests("+2"),
	}
	all := api.SafetyMachine{Flags: letters(1), Harms: tests("+0")}
	for _, name := range letters(10) {
		all.Actions = append(all.Actions, action(name, "", "+0"))
	}
	for _, y := range []struct {
		name  string
		m     api.SafetyMachine
		state int
		want  []int
	}{
		{"example", openMachine(), 0, ints(0)},
		{"running", openMachine(), 4, ints(0)},
		{"nothing is reached", exampleMachine(), 0, nil},
		{"nothing is reached from 5", exampleMachine(), 5, nil},
		{"no actions", api.SafetyMachine{Flags: letters(1), Harms: tests("+0")}, 0, nil},
		{"no harms", with(openMachine(), func(m *api.SafetyMachine) { m.Harms = nil }), 0, nil},
		{"two", two, 0, ints(0, 1)},
		{"two, from the first flag", two, 1, ints(0, 1)},
		{"two, the third of which is left", with(two, func(m *api.SafetyMachine) { m.Actions = m.Actions[:4] }), 1, ints(0)},
		{"two, both of which do the same", with(two, func(m *api.SafetyMachine) {
			m.Actions = []api.SafetyAction{m.Actions[2], m.Actions[0], m.Actions[4], action("f", "+0", "+2")}
		}), 0, ints(0)},
		{"all", all, 0, ints(0, 1, 2, 3, 4, 5, 6, 7, 8, 9)},
		{"the first of eight", greatMachine(), 0, ints(0)},
		{"the second of eight", greatMachine(), 1, ints(1)},
		{"the last of eight", greatMachine(), 127, ints(7)},
	} {
		barred, e := safety.BarredFor(y.m, y.state)
		mustBe(t, y.name, barred, e, y.want, api.OK)
	}
	always := with(exampleMachine(), func(m *api.SafetyMachine) { m.Harms = tests("") })
	for state := range 8 {
		barred, e := safety.BarredFor(always, state)
		mustFail(t, state, barred, e, api.ErrState)
	}
	for _, state := range []int{6, 7} {
		for _, m := range []api.SafetyMachine{exampleMachine(), openMachine()} {
			barred, e := safety.BarredFor(m, state)
			mustFail(t, state, barred, e, api.ErrState)
		}
	}
}

// P9.2, P9.8: by hand
func TestHarmsByHand(t *testing.T) {
	random := fixedRandom()
	for range 400 {
		m := someMachine(random)
		state := random.IntN(statesOf(m))
		reached, e := safety.ReachedFrom(m, state)
		mustBe(t, m, reached, e, reachedByHand(m, state, nil), api.OK)
		actions, e := safety.HarmFrom(m, state)
		if want, isReached := harmByHand(m, state); isReached {
			mustBe(t, m, actions, e, want, api.OK)
		} else {
			mustFail(t, m, actions, e, api.ErrNone)
		}
		barred, e := safety.BarredFor(m, state)
		if isHarmByHand(m, state) {
			mustFail(t, m, barred, e, api.ErrState)
		} else {
			mustBe(t, m, barred, e, barredByHand(m, state), api.OK)
		}
	}
}

// P9.8: the reached states are a closed set, or the harm is one: its actions are possible and lead to it, no beginning of them does.
func TestClosedOrHarm(t *testing.T) {
	closed, harms := 0, 0
	random := fixedRandom()
	for range 400 {
		m := someMachine(random)
		state := random.IntN(statesOf(m))
		reached, _ := safety.ReachedFrom(m, state)
		index, closedError := safety.CheckClosed(m, state, reached)
		actions, e := safety.HarmFrom(m, state)
		if e == api.ErrNone {
			closed++
			mustBe(t, m, index, closedError, 0, api.OK)
			continue
		}
		harms++
		first := slices.IndexFunc(reached, func(s int) bool { return isHarmByHand(m, s) })
		mustBe(t, m, index, closedError, first, api.ErrBreak)
		for _, by := range actions {
			if isHarmByHand(m, state) {
				t.Error("a harm too soon", m, state, actions)
			}
			state, e = safety.NextBy(m, state, by)
			if e != api.OK {
				t.Error(m, actions, e)
			}
		}
		if !isHarmByHand(m, state) {
			t.Error("no harm", m, actions)
		}
	}
	if closed < 50 || harms < 50 {
		t.Error(closed, harms)
	}
}

// P9.8: without the barred actions no harm is reached, without all but one of them one is.
func TestBarredActions(t *testing.T) {
	found := 0
	random := fixedRandom()
	for range 1000 {
		m := someMachine(random)
		state := random.IntN(statesOf(m))
		barred, e := safety.BarredFor(m, state)
		if e != api.OK || len(barred) == 0 {
			continue
		}
		found++
		without := func(barred []int) api.SafetyMachine {
			return with(m, func(m *api.SafetyMachine) {
				var left []api.SafetyAction
				for i, a := range m.Actions {
					if !slices.Contains(barred, i) {
						left = append(left, a)
					}
				}
				m.Actions = left
			})
		}
		_, e = safety.HarmFrom(without(barred), state)
		if e != api.ErrNone {
			t.Error(m, state, barred, e)
		}
		for i := range barred {
			_, e := safety.HarmFrom(without(slices.Concat(barred[:i], barred[i+1:])), state)
			if e != api.OK {
				t.Error(m, state, barred, i, e)
			}
		}
	}
	if found < 50 {
		t.Error(found)
	}
}

// P9.2, example 1
func TestCheckClosed(t *testing.T) {
	opening := with(exampleMachine(), func(m *api.SafetyMachine) { m.Harms = tests("+1") })
	stuck := with(exampleMachine(), func(m *api.SafetyMachine) { m.Actions = nil })
	always := with(stuck, func(m *api.SafetyMachine) { m.Harms = tests("") })
	for _, y := range []struct {
		name  string
		m     api.SafetyMachine
		state int
		set   []int
		index int
		want  api.Errno
	}{
		{"reached", exampleMachine(), 0, ints(0, 1, 2, 3, 5), 0, api.OK},
		{"for another one of them", exampleMachine(), 5, ints(0, 1, 2, 3, 5), 0, api.OK},
		{"those alone that 5 reaches", exampleMachine(), 5, ints(1, 3, 5), 0, api.OK},
		{"more than reached", exampleMachine(), 0, ints(0, 1, 2, 3, 4, 5), 0, api.OK},
		{"no actions", stuck, 2, ints(2), 0, api.OK},
		{"no actions, and more states", stuck, 2, ints(0, 2, 5), 0, api.OK},
		{"without 5", exampleMachine(), 0, ints(0, 1, 2, 3), 1, api.ErrOpen},
		{"without 1", exampleMachine(), 0, ints(0, 2, 3, 5), 0, api.ErrOpen},
		{"without 3", exampleMachine(), 0, ints(0, 1, 2, 5), 1, api.ErrOpen},
		{"open at the last one", with(stuck, func(m *api.SafetyMachine) { m.Actions = exampleMachine().Actions[3:4] }), 0, ints(0, 1), 1, api.ErrOpen},
		{"a harm", exampleMachine(), 0, ints(0, 1, 2, 3, 5, 6), 5, api.ErrBreak},
		{"a harm that is not reached", exampleMachine(), 5, ints(1, 3, 5, 7), 3, api.ErrBreak},
		{"all states", exampleMachine(), 0, ints(0, 1, 2, 3, 4, 5, 6, 7), 6, api.ErrBreak},
		{"open before a harm", exampleMachine(), 0, ints(0, 7), 0, api.ErrOpen},
		{"a harm before one that is open", opening, 1, ints(1, 2, 4), 0, api.ErrOpen},
		{"a harm, not open", opening, 2, ints(2, 4), 0, api.ErrBreak},
		{"every state a harm", always, 3, ints(3), 0, api.ErrBreak},
		{"a harm itself", exampleMachine(), 7, ints(7), 0, api.ErrBreak},
		{"the next one is a harm", openMachine(), 5, ints(1, 3, 5), 2, api.ErrOpen},
		{"nothing", exampleMachine(), 0, nil, 0, api.ErrMissing},
		{"empty", exampleMachine(), 0, ints(), 0, api.ErrMissing},
		{"not the state", exampleMachine(), 0, ints(1, 3, 5), 0, api.ErrMissing},
		{"not the state, and open", exampleMachine(), 0, ints(1, 2), 0, api.ErrMissing},
		{"not the state, and a harm", exampleMachine(), 4, ints(6, 7), 0, api.ErrMissing},
		{"no state", exampleMachine(), 0, ints(-1, -1), 0, api.ErrRange},
		{"no state behind", exampleMachine(), 0, ints(0, 1, 8), 2, api.ErrRange},
		{"no state, and smaller", exampleMachine(), 0, ints(0, 1, -1, 1), 2, api.ErrRange},
		{"the greatest", exampleMachine(), 0, ints(0, math.MaxInt), 1, api.ErrRange},
		{"the smallest", exampleMachine(), 0, ints(math.MinInt), 0, api.ErrRange},
		{"twice", exampleMachine(), 0, ints(0, 0, 9), 1, api.ErrOrder},
		{"descending", exampleMachine(), 0, ints(0, 2, 1, 3, 5), 2, api.ErrOrder},
		{"the last one again", exampleMachine(), 0, ints(0, 1, 2, 3, 5, 5), 5, api.ErrOrder},
		{"order before the state that is missing", exampleMachine(), 0, ints(3, 1), 1, api.ErrOrder},
		{"range before a harm", exampleMachine(), 6, ints(6, 7, 8), 2, api.ErrRange},
		{"very many", exampleMachine(), 0, make([]int, 1000000), 1, api.ErrOrder},
	} {
		index, e := safety.CheckClosed(y.m, y.state, y.set)
		mustBe(t, y.name, index, e, y.index, y.want)
	}
}

// P9.2: any set of states, by hand
func TestClosedByHand(t *testing.T) {
	counts := map[api.Errno]int{}
	random := fixedRandom()
	for range 2000 {
		m := someMachine(random)
		m.Harms = m.Harms[:min(len(m.Harms), 1)]
		state := random.IntN(statesOf(m))
		set := reachedByHand(m, state, nil)
		for s := range statesOf(m) {
			if random.IntN(statesOf(m)) == 0 && !slices.Contains(set, s) {
				set = append(set, s)
			}
		}
		slices.Sort(set)
		if random.IntN(2) == 0 {
			without := random.IntN(len(set))
			set = slices.Delete(set, without, without+1)
		}
		wantIndex, want := 0, api.OK
		for i, s := range set {
			isOpen := slices.ContainsFunc(possibleByHand(m, s), func(by int) bool { return !slices.Contains(set, nextByHand(m.Actions[by], s)) })
			if isHarmByHand(m, s) {
				wantIndex, want = i, api.ErrBreak
				break
			}
			if isOpen {
				wantIndex, want = i, api.ErrOpen
				break
			}
		}
		if !slices.Contains(set, state) {
			wantIndex, want = 0, api.ErrMissing
		}
		counts[want]++
		index, e := safety.CheckClosed(m, state, set)
		mustBe(t, m, index, e, wantIndex, want)
	}
	for _, e := range []api.Errno{api.OK, api.ErrMissing, api.ErrBreak, api.ErrOpen} {
		if counts[e] < 20 {
			t.Error(e, counts)
		}
	}
}

// P9.2: the errors of the machine come first, then those of the state.
func TestErrorsOfHarms(t *testing.T) {
	check := func(name any, m api.SafetyMachine, state int, want api.Errno) {
		t.Helper()
		reached, e := safety.ReachedFrom(m, state)
		mustFail(t, name, reached, e, want)
		actions, e := safety.HarmFrom(m, state)
		mustFail(t, name, actions, e, want)
		barred, e := safety.BarredFor(m, state)
		mustFail(t, name, barred, e, want)
		for _, set := range [][]int{nil, {0}, {1, 0}, {0, 999}} {
			index, e := safety.CheckClosed(m, state, set)
			mustFail(t, name, index, e, want)
		}
	}
	for _, b := range badMachines() {
		for _, state := range []int{0, -1} {
			check(b.name, b.m, state, b.want)
		}
	}
	for _, state := range badStates() {
		check(state, exampleMachine(), state, api.ErrRange)
	}
}
