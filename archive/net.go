package archive

import (
	"slices"

	"ductility/api"
	"ductility/safety"
	"ductility/sensor"
)

// personName returns the name of a person.
func personName(p api.ArchivePerson) string { return p.Name }

// channelName returns the name of a channel.
func channelName(c api.ArchiveChannel) string { return c.Name }

// gateName returns the name of a gate.
func gateName(g api.SafetyGate) string { return g.Name }

// actionName returns the name of an action.
func actionName(a api.SafetyAction) string { return a.Name }

// specimenName returns the name of a specimen.
func specimenName(s api.ArchiveSpecimen) string { return s.Name }

// holds tells whether a test holds in a state of a machine.
func holds(m api.SafetyMachine, state int, t api.SafetyTest) bool {
	// An action is possible exactly if what it needs holds.
	asked := api.SafetyMachine{Flags: m.Flags, Actions: []api.SafetyAction{{Name: "asked", Needs: t}}}
	possible, _ := safety.ActionsFrom(asked, state)
	return len(possible) > 0
}

// isHarm tells whether a state of a machine is a harm.
func isHarm(m api.SafetyMachine, state int) bool {
	return slices.ContainsFunc(m.Harms, func(harm api.SafetyTest) bool { return holds(m, state, harm) })
}

// checkPersons returns the error of persons, with the index of the person.
func checkPersons(l []api.ArchivePerson) (int, api.Errno) {
	if e := firstOf(when(len(l) == 0, api.ErrShape), when(len(l) > api.MaxArchivePersons, api.ErrLarge)); e != api.OK {
		return 0, e
	}
	names := stringsOf(l, personName)
	return checkItems(l, func(i int, p api.ArchivePerson) api.Errno {
		return firstOf(
			nameError(names[:i], p.Name),
			when(!isWithin(0, api.ArchiveRoles-1, p.Role), api.ErrRange))
	})
}

// checkChannels returns the error of channels, with the index of the channel.
func checkChannels(l []api.ArchiveChannel) (int, api.Errno) {
	if len(l) > api.MaxArchiveChannels {
		return 0, api.ErrLarge
	}
	names := stringsOf(l, channelName)
	return checkItems(l, func(i int, c api.ArchiveChannel) api.Errno {
		return firstOf(nameError(names[:i], c.Name), sensor.CheckLine(c.Line))
	})
}

// machineError returns the error of a machine, of the state in which it begins, and of what must hold when a run begins.
func machineError(m api.SafetyMachine, begin int, permits api.SafetyTest) api.Errno {
	if e := safety.CheckState(m, begin); e != api.OK {
		return e
	}
	asHarm := m
	asHarm.Harms = []api.SafetyTest{permits}
	_, permitsError := safety.CheckMachine(asHarm)
	return firstOf(
		when(isHarm(m, begin), api.ErrBreak),
		when(permitsError != api.OK, api.ErrForm))
}

// CheckNet returns the error of a net, with the index of the person or the channel.
func CheckNet(n api.ArchiveNet) (int, api.Errno) {
	if index, e := checkPersons(n.Persons); e != api.OK {
		return index, e
	}
	if index, e := checkChannels(n.Channels); e != api.OK {
		return index, e
	}
	_, gatesError := safety.CheckGates(n.Gates)
	return 0, firstOf(
		gatesError,
		machineError(n.Machine, n.Begin, n.Permits),
		when(!isWithin(0, api.MaxArchiveSpaces, n.Spaces), api.ErrRange))
}
