package archive_test

import (
	"math"
	"slices"
	"testing"

	"ductility/api"
	"ductility/archive"
)

// badPersons lists all errors of persons; most of them have errors that are listed later, or stand in later parts, too.
func badPersons() []badNet {
	l := []badNet{
		{"nothing", api.ArchiveNet{}, 0, api.ErrShape},
		changed("no persons", 0, api.ErrShape, func(n *api.ArchiveNet) { n.Persons, n.Channels = nil, make([]api.ArchiveChannel, 5) }),
		changed("no persons, but an empty list", 0, api.ErrShape, func(n *api.ArchiveNet) { n.Persons = []api.ArchivePerson{} }),
		changed("seven persons", 0, api.ErrLarge, func(n *api.ArchiveNet) { n.Persons = make([]api.ArchivePerson, 7) }),
		changed("seven good persons", 0, api.ErrLarge, func(n *api.ArchiveNet) { n.Persons = append(n.Persons, person("seven", 0)) }),
		changed("very many persons", 0, api.ErrLarge, func(n *api.ArchiveNet) { n.Persons = make([]api.ArchivePerson, 1000000) }),
		changed("person twice", 1, api.ErrExists, func(n *api.ArchiveNet) { n.Persons[1] = person("ann", 9) }),
		changed("last person twice", 5, api.ErrExists, func(n *api.ArchiveNet) { n.Persons[5].Name, n.Channels[0].Name = "eve", "?" }),
		changed("a role before a name", 0, api.ErrRange, func(n *api.ArchiveNet) { n.Persons[0].Role, n.Persons[1].Name = -1, "?" }),
	}
	for _, role := range []int{-1, api.ArchiveRoles, 5, math.MaxInt, math.MinInt} {
		l = append(l,
			changed("role", 0, api.ErrRange, func(n *api.ArchiveNet) { n.Persons[0].Role, n.Gates = role, nil }),
			changed("last role", 5, api.ErrRange, func(n *api.ArchiveNet) { n.Persons[5].Role, n.Channels = role, make([]api.ArchiveChannel, 5) }))
	}
	for _, name := range badNames() {
		l = append(l,
			changed("person "+name, 0, api.ErrName, func(n *api.ArchiveNet) { n.Persons[0], n.Persons[1].Name = person(name, 9), name }),
			changed("last person "+name, 5, api.ErrName, func(n *api.ArchiveNet) { n.Persons[5].Name, n.Channels[0].Name = name, "" }))
	}
	return l
}

// badChannels lists all errors of channels; most of them have errors that are listed later, or stand in later parts, too.
func badChannels() []badNet {
	l := []badNet{
		changed("five channels", 0, api.ErrLarge, func(n *api.ArchiveNet) { n.Channels, n.Gates = make([]api.ArchiveChannel, 5), nil }),
		changed("five good channels", 0, api.ErrLarge, func(n *api.ArchiveNet) { n.Channels = append(n.Channels, channel("five", 1, 0, 1)) }),
		changed("very many channels", 0, api.ErrLarge, func(n *api.ArchiveNet) { n.Channels = make([]api.ArchiveChannel, 1000000) }),
		changed("channel twice", 1, api.ErrExists, func(n *api.ArchiveNet) { n.Channels[1] = channel("acc", 0, 0, 0) }),
		changed("last channel twice", 3, api.ErrExists, func(n *api.ArchiveNet) { n.Channels[3].Name, n.Gates = "pos", nil }),
		changed("a line before a name", 2, api.ErrForm, func(n *api.ArchiveNet) { n.Channels[2], n.Channels[3].Name = channel("c", 2, 4, 6), "?" }),
		changed("not in lowest terms", 3, api.ErrForm, func(n *api.ArchiveNet) { n.Channels[3], n.Gates = channel("c", 0, 0, 2), nil }),
	}
	for _, x := range []api.SensorLine{
		{Gain: 1}, {Gain: 1, Den: -1}, {Gain: 2, Offset: 2, Den: -2}, {Gain: 300000000001, Den: 1}, {Offset: -300000000001, Den: 1},
		{Gain: 1, Den: 300000000001}, {Gain: math.MinInt, Den: 1}, {Offset: math.MaxInt, Den: math.MinInt},
	} {
		l = append(l,
			changed("line", 0, api.ErrRange, func(n *api.ArchiveNet) { n.Channels[0].Line, n.Channels[1].Name = x, "" }),
			changed("last line", 3, api.ErrRange, func(n *api.ArchiveNet) { n.Channels[3].Line, n.Gates = x, nil }))
	}
	for _, name := range badNames() {
		l = append(l,
			changed("channel "+name, 0, api.ErrName, func(n *api.ArchiveNet) { n.Channels[0], n.Channels[1].Name = channel(name, 0, 0, 0), name }),
			changed("last channel "+name, 3, api.ErrName, func(n *api.ArchiveNet) { n.Channels[3].Name, n.Gates = name, nil }))
	}
	return l
}

// badRests lists all errors behind those of channels; most of them have errors that are listed later, too.
func badRests() []badNet {
	l := []badNet{
		changed("no gates", 0, api.ErrShape, func(n *api.ArchiveNet) { n.Gates, n.Machine.Flags = nil, []string{"?"} }),
		changed("seven gates", 0, api.ErrLarge, func(n *api.ArchiveNet) { n.Gates, n.Machine.Flags = make([]api.SafetyGate, 7), nil }),
		changed("gate", 0, api.ErrName, func(n *api.ArchiveNet) { n.Gates[2].Name, n.Machine.Flags = "?", nil }),
		changed("gate twice", 0, api.ErrExists, func(n *api.ArchiveNet) { n.Gates[2].Name, n.Machine.Flags = "low", nil }),
		changed("role twice", 0, api.ErrDouble, func(n *api.ArchiveNet) { n.Gates[1].Roles, n.Begin = []string{"a", "a"}, -1 }),
		changed("signs of a gate", 0, api.ErrRange, func(n *api.ArchiveNet) { n.Gates[1].Signs, n.Machine.Flags = 21, nil }),
		changed("no flags", 0, api.ErrShape, func(n *api.ArchiveNet) { n.Machine.Flags, n.Begin = nil, -1 }),
		changed("nine flags", 0, api.ErrLarge, func(n *api.ArchiveNet) { n.Machine.Flags, n.Begin = make([]string, 9), -1 }),
		changed("flag", 0, api.ErrName, func(n *api.ArchiveNet) { n.Machine.Flags[1], n.Begin = "?", -1 }),
		changed("action twice", 0, api.ErrExists, func(n *api.ArchiveNet) { n.Machine.Actions[3].Name, n.Begin = "turn", -1 }),
		changed("needs", 0, api.ErrMissing, func(n *api.ArchiveNet) { n.Machine.Actions[3].Needs, n.Begin = test("+2"), -1 }),
		changed("harm", 0, api.ErrClash, func(n *api.ArchiveNet) { n.Machine.Harms[0], n.Begin = test("+1-1"), -1 }),
		changed("harm without such a flag", 0, api.ErrMissing, func(n *api.ArchiveNet) { n.Machine.Harms[0], n.Begin = api.SafetyTest{On: []int{-1}}, -1 }),
		changed("begins with a harm", 0, api.ErrBreak, func(n *api.ArchiveNet) { n.Begin, n.Permits = 2, test("+9") }),
		changed("every state a harm", 0, api.ErrBreak, func(n *api.ArchiveNet) {
			n.Machine.Harms, n.Permits = append(n.Machine.Harms, api.SafetyTest{}), test("+9")
		}),
		changed("begins with the last harm", 0, api.ErrBreak, func(n *api.ArchiveNet) { n.Machine.Harms, n.Spaces = append(n.Machine.Harms, test("-0-1")), -1 }),
	}
	for _, begin := range []int{-1, 4, 5, 255, math.MaxInt, math.MinInt} {
		l = append(l, changed("begin", 0, api.ErrRange, func(n *api.ArchiveNet) { n.Begin, n.Permits = begin, test("+9") }))
	}
	for _, permits := range []api.SafetyTest{
		test("+2"), test("-2"), test("+0+0"), test("+1+0"), test("-1-0"), test("+0-0"), {On: []int{-1}}, {Off: []int{math.MaxInt}}, {On: []int{math.MinInt}}, {On: make([]int, 100000)},
	} {
		l = append(l, changed("permits", 0, api.ErrForm, func(n *api.ArchiveNet) { n.Permits, n.Spaces = permits, -1 }))
	}
	for _, spaces := range []int{-1, 5, 6, math.MaxInt, math.MinInt} {
		l = append(l, changed("spaces", 0, api.ErrRange, func(n *api.ArchiveNet) { n.Spaces = spaces }))
	}
	return l
}

// badNets lists all errors of nets.
func badNets() []badNet { return slices.Concat(badPersons(), badChannels(), badRests()) }

// goodNets lists nets, those at the ends of what is permitted among them.
func goodNets() []api.ArchiveNet {
	l := []api.ArchiveNet{
		exampleNet(), wideNet(),
		{Persons: []api.ArchivePerson{person("a", 0)}, Gates: []api.SafetyGate{gate("a", 0)}, Machine: api.SafetyMachine{Flags: []string{"a"}}},
		{Persons: []api.ArchivePerson{person("a", 3), person("A", 3)}, Gates: []api.SafetyGate{gate("a", 20)}, Machine: api.SafetyMachine{Flags: []string{"a"}}, Begin: 1, Spaces: 4},
		// A person, a channel, a gate and a flag may have one name; lines may have numbers as great as permitted.
		with(wideNet(), func(n *api.ArchiveNet) {
			n.Persons[0].Name, n.Channels[0], n.Gates[0].Name, n.Machine.Flags[0] = "one", channel("one", 300000000000, -299999999999, 300000000000), "one", "one"
		}),
		with(wideNet(), func(n *api.ArchiveNet) { n.Channels, n.Machine.Actions, n.Machine.Harms = nil, nil, nil }),
		// A machine has room for what is permitted, even if it has as many harms as it may have.
		with(wideNet(), func(n *api.ArchiveNet) {
			n.Machine.Harms, n.Permits = slices.Repeat([]api.SafetyTest{test("+1-0")}, api.MaxSafetyHarms), test("+0")
		}),
		// Runs may be permitted in a harm alone: never.
		with(wideNet(), func(n *api.ArchiveNet) { n.Permits = test("+1-0") }),
	}
	for _, begin := range []int{0, 1, 3} {
		l = append(l, with(wideNet(), func(n *api.ArchiveNet) { n.Begin, n.Spaces = begin, begin }))
	}
	for _, permits := range []string{"", "+0", "-0", "+1", "-1", "+0+1", "-0-1", "+0-1", "+1-0"} {
		l = append(l, with(wideNet(), func(n *api.ArchiveNet) { n.Permits = test(permits) }))
	}
	for _, name := range goodNames() {
		l = append(l, with(wideNet(), func(n *api.ArchiveNet) { n.Persons[5].Name, n.Channels[3].Name = name, name }))
	}
	return l
}

// P10.1
func TestCheckNet(t *testing.T) {
	for _, n := range goodNets() {
		index, e := archive.CheckNet(n)
		mustBe(t, n, index, e, 0, api.OK)
	}
	for _, b := range badNets() {
		index, e := archive.CheckNet(b.n)
		mustBe(t, b.name, index, e, b.index, b.want)
	}
}

// errorsOf returns the errors of all functions of a net and logs, and whether all of their values are nothing.
func errorsOf(n api.ArchiveNet, l []api.ArchiveEntry) (map[string]api.Errno, bool) {
	errors := map[string]api.Errno{}
	areNothing := true
	keep := func(name string, e api.Errno, isNothing bool) {
		errors[name] = e
		areNothing = areNothing && isNothing
	}
	state, e := archive.StateOf(n, l)
	keep("state", e, areSame(state, api.ArchiveState{}))
	keep("append", archive.MayAppend(n, l, api.ArchiveEntry{At: -1}), true)
	level, e := archive.LevelOf(n, l, "?")
	keep("level", e, level == 0)
	motion, e := archive.MotionOf(n, l, "?", -1)
	keep("motion", e, areSame(motion, api.MotionRecord{}))
	values, e := archive.ValuesOf(n, l, "?", -1)
	keep("values", e, len(values) == 0)
	periods, e := archive.PeriodsOf(n, l, "?")
	keep("periods", e, len(periods) == 0)
	damage, e := archive.DamageOf(n, l, "?")
	keep("damage", e, len(damage) == 0)
	fragility, e := archive.FragilityOf(n, l, -1)
	keep("fragility", e, fragility == api.ArchiveCount{})
	results, e := archive.ResultsOf(n, l)
	keep("results", e, len(results) == 0)
	seals, e := archive.SealsOf(n, l, "?")
	keep("seals", e, seals == api.ArchiveCount{})
	merged, e := archive.Merged(n, l, nil)
	keep("merged", e, len(merged) == 0)
	other, e := archive.Merged(n, nil, l)
	keep("merged behind", e, len(other) == 0)
	answer, e := archive.Answer(n, l, "?")
	keep("answer", e, answer == "")
	return errors, areNothing
}

// The error of a net comes first everywhere, without an index.
func TestErrorsOfNets(t *testing.T) {
	logs := [][]api.ArchiveEntry{nil, notes(31), {{At: -1}}}
	for _, b := range badNets() {
		for _, l := range logs {
			index, e := archive.CheckLog(b.n, l)
			mustBe(t, b.name, index, e, 0, b.want)
			errors, areNothing := errorsOf(b.n, l)
			for name, e := range errors {
				if e != b.want || !areNothing {
					t.Error(b.name, name, e, areNothing)
				}
			}
		}
		for _, journal := range []string{"", "1 ann note  1\n", string(make([]byte, api.MaxString+1))} {
			l, count, e := archive.Recovered(b.n, journal)
			mustFail(t, b.name, l, e, b.want)
			mustFail(t, b.name, count, e, b.want)
		}
	}
}
