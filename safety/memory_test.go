package safety_test

import (
	"slices"
	"sync"
	"testing"

	"ductility/api"
	"ductility/safety"
)

// spoil overwrites a slice, and what follows it in memory.
func spoil[T any](list []T, by T) {
	for i := range list[:cap(list)] {
		list[:cap(list)][i] = by
	}
}

// spoilTest overwrites the flags of a test.
func spoilTest(x api.SafetyTest) {
	spoil(x.On, -77)
	spoil(x.Off, -77)
}

// R3: results share no memory with arguments, nor with what is returned later.
func TestResultsShareNoMemory(t *testing.T) {
	m, l := openMachine(), exampleGates()
	set := ints(0, 1, 2, 3, 5, 7)
	pushes := ints(-1, -1, -1, 0)
	for range 2 { // what is spoiled in the first round would be seen in the second one
		possible, e := safety.ActionsFrom(m, 0)
		mustBe(t, "possible", possible, e, ints(0, 1, 2, 4), api.OK)
		reached, e := safety.ReachedFrom(m, 0)
		mustBe(t, "reached", reached, e, set, api.OK)
		actions, e := safety.HarmFrom(m, 0)
		mustBe(t, "harm", actions, e, ints(2, 3, 0), api.OK)
		barred, e := safety.BarredFor(m, 0)
		mustBe(t, "barred", barred, e, ints(0), api.OK)
		stop, e := safety.StopFrom(exampleLimits(), motion(0, 3, 0))
		mustBe(t, "stop", stop, e, pushes, api.OK)
		next, e := safety.PushesFrom(exampleLimits(), motion(0, 0, 0))
		mustBe(t, "next", next, e, ints(-1, 0, 1), api.OK)
		missing, e := safety.MissingAt(l, 1, nil)
		mustBe(t, "missing", missing, e, ints(0, 1), api.OK)
		for _, numbers := range [][]int{possible, reached, actions, barred, stop, next, missing} {
			spoil(numbers, -77)
		}
	}
	mustStay(t, "machine", m, openMachine())
	mustStay(t, "gates", l, exampleGates())
}

// R3: parts of a machine that is parsed share no memory with each other.
func TestParsedMachineSharesNoMemory(t *testing.T) {
	for range 2 {
		m, e := safety.ParseMachine(machineText)
		mustBe(t, "machine", m, e, exampleMachine(), api.OK)
		spoil(m.Flags, "?")
		for i := range m.Actions {
			mustStay(t, "actions", m.Actions[i:], exampleMachine().Actions[i:])
			spoil(m.Actions[i].Needs.On, -77)
			mustStay(t, "needs", m.Actions[i].Needs.Off, exampleMachine().Actions[i].Needs.Off)
			spoil(m.Actions[i].Needs.Off, -77)
			mustStay(t, "does", m.Actions[i].Does, exampleMachine().Actions[i].Does)
			spoilTest(m.Actions[i].Does)
		}
		spoil(m.Actions, api.SafetyAction{})
		mustStay(t, "harms", m.Harms, exampleMachine().Harms)
		spoilTest(m.Harms[0])
		spoil(m.Harms, api.SafetyTest{})
	}
}

// R3: parts of gates that are parsed share no memory with each other.
func TestParsedGatesShareNoMemory(t *testing.T) {
	for range 2 {
		l, e := safety.ParseGates(gatesText)
		mustBe(t, "gates", l, e, exampleGates(), api.OK)
		for i := range l {
			mustStay(t, "gates", l[i:], exampleGates()[i:])
			spoil(l[i].Roles, "?")
		}
		spoil(l, api.SafetyGate{})
	}
}

// longer returns a copy of a slice with further items behind it.
func longer[T any](list []T, further T) []T { return slices.Concat(list, []T{further, further}) }

// R3: no argument is changed, nor what lies behind it in memory.
func TestArgumentsStay(t *testing.T) {
	wide := openMachine()
	for i, a := range wide.Actions {
		wide.Actions[i].Needs = api.SafetyTest{On: longer(a.Needs.On, 77), Off: longer(a.Needs.Off, 77)}
		wide.Actions[i].Does = api.SafetyTest{On: longer(a.Does.On, 77), Off: longer(a.Does.Off, 77)}
	}
	memory := api.SafetyMachine{Flags: longer(wide.Flags, "?"), Actions: longer(wide.Actions, api.SafetyAction{Name: "?"}), Harms: longer(wide.Harms, test("-9"))}
	m := api.SafetyMachine{Flags: memory.Flags[:3], Actions: memory.Actions[:5], Harms: memory.Harms[:1]}
	narrow := func(x api.SafetyTest) api.SafetyTest {
		return api.SafetyTest{On: x.On[:len(x.On)-2], Off: x.Off[:len(x.Off)-2]}
	}
	for i, a := range m.Actions {
		m.Actions[i].Needs, m.Actions[i].Does = narrow(a.Needs), narrow(a.Does)
	}
	set, pushes := ints(0, 1, 2, 3, 5, 77, 77), ints(-1, -1, -1, 0, 77, 77)
	readings := ranges(90, 95, 101, 110, 77, 76)
	l, signed := longer(exampleGates(), api.SafetyGate{}), longer(manySigns(2), api.SafetySign{})
	l[0].Roles = longer(l[0].Roles, "?")[:1]
	all, positions := longer(zones(exampleZone()), zone(1, 0, 0, 0)), path(0, 0, 5, 1, 7777, 0)
	safety.CheckMachine(m)
	for state := range 8 {
		safety.CheckState(m, state)
		safety.ActionsFrom(m, state)
		safety.NextBy(m, state, 1)
		safety.ReachedFrom(m, state)
		safety.CheckClosed(m, state, set[:5])
		safety.HarmFrom(m, state)
		safety.BarredFor(m, state)
	}
	at, e := safety.CheckStop(exampleLimits(), motion(0, 3, 0), pushes[:4])
	mustBe(t, "stop", at, e, 3, api.OK)
	safety.TripOf(watch(100, 2), readings[:2])
	safety.CheckGates(l[:2])
	safety.MissingAt(l[:2], 1, signed[:2])
	safety.LevelBy(l[:2], signed[:2])
	safety.ClearOf(all[:1], positions[:2])
	if s := safety.FormatMachine(m); s != safety.FormatMachine(openMachine()) {
		t.Error(s)
	}
	if s := safety.FormatGates(l[:2]); s != gatesText {
		t.Error(s)
	}
	for i, a := range m.Actions {
		mustStay(t, "needs", a.Needs, openMachine().Actions[i].Needs)
		mustStay(t, "behind needs", a.Needs.On[:len(a.Needs.On)+2], wide.Actions[i].Needs.On)
		mustStay(t, "behind does", a.Does.Off[:len(a.Does.Off)+2], wide.Actions[i].Does.Off)
	}
	mustStay(t, "machine", m, openMachine())
	mustStay(t, "behind the flags", memory.Flags[3:], []string{"?", "?"})
	mustStay(t, "behind the actions", memory.Actions[5:], []api.SafetyAction{{Name: "?"}, {Name: "?"}})
	mustStay(t, "behind the harms", memory.Harms[1:], tests("-9", "-9"))
	mustStay(t, "set", set, ints(0, 1, 2, 3, 5, 77, 77))
	mustStay(t, "pushes", pushes, ints(-1, -1, -1, 0, 77, 77))
	mustStay(t, "readings", readings, ranges(90, 95, 101, 110, 77, 76))
	mustStay(t, "gates", l, longer(exampleGates(), api.SafetyGate{}))
	mustStay(t, "behind the roles", l[0].Roles[:3], []string{"chief", "?", "?"})
	mustStay(t, "signatures", signed, longer(manySigns(2), api.SafetySign{}))
	mustStay(t, "zones", all, longer(zones(exampleZone()), zone(1, 0, 0, 0)))
	mustStay(t, "path", positions, path(0, 0, 5, 1, 7777, 0))
}

// R4: calls at the same time have the same results.
func TestAtTheSameTime(t *testing.T) {
	m := greatMachine()
	wantBarred, _ := safety.BarredFor(m, 0)
	wantStop, _ := safety.StopFrom(widest(), motion(40, 8, 3))
	var group sync.WaitGroup
	barred, stops := make([][]int, 8), make([][]int, 8)
	for i := range barred {
		group.Go(func() {
			barred[i], _ = safety.BarredFor(m, 0)
			stops[i], _ = safety.StopFrom(widest(), motion(40, 8, 3))
		})
	}
	group.Wait()
	for i := range barred {
		mustStay(t, "barred", barred[i], wantBarred)
		mustStay(t, "stop", stops[i], wantStop)
	}
}

// R5: nil and empty slices are the same.
func TestNilAndEmpty(t *testing.T) {
	for _, none := range [][]int{nil, {}} {
		m := with(exampleMachine(), func(m *api.SafetyMachine) {
			m.Actions[1].Needs.On, m.Actions[1].Needs.Off, m.Actions[1].Does.On = none, none, none
			m.Harms[0].Off = none
		})
		index, e := safety.CheckMachine(m)
		mustBe(t, "machine", index, e, 0, api.OK)
		next, e := safety.NextBy(m, 2, 1)
		mustBe(t, "shut", next, e, 0, api.OK)
		at, e := safety.CheckStop(exampleLimits(), motion(4, 0, 0), none)
		mustBe(t, "stop", at, e, 4, api.OK)
		index, e = safety.CheckClosed(m, 0, none)
		mustBe(t, "closed", index, e, 0, api.ErrMissing)
	}
	for _, roles := range [][]string{nil, {}} {
		level, e := safety.LevelBy([]api.SafetyGate{{Name: "a", Roles: roles}}, nil)
		mustBe(t, "level", level, e, 1, api.OK)
	}
}
