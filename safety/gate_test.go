package safety_test

import (
	"math"
	"math/rand/v2"
	"slices"
	"testing"

	"ductility/api"
	"ductility/safety"
)

// gate returns a gate.
func gate(name string, signs int, roles ...string) api.SafetyGate {
	return api.SafetyGate{Name: name, Roles: roles, Signs: signs}
}

// sign returns a signature.
func sign(gate int, person, role string) api.SafetySign {
	return api.SafetySign{Gate: gate, Person: person, Role: role}
}

// signs returns signatures.
func signs(l ...api.SafetySign) []api.SafetySign { return l }

// exampleGates returns the gates of the examples.
func exampleGates() []api.SafetyGate {
	return []api.SafetyGate{gate("low", 1, "chief"), gate("high", 2, "chief", "owner")}
}

// gates returns so many gates that nobody needs to sign.
func gates(count int) []api.SafetyGate {
	var l []api.SafetyGate
	for _, name := range letters(count) {
		l = append(l, gate(name, 0))
	}
	return l
}

// badGates is gates with an error, and what CheckGates says of them.
type badGates struct {
	name  string
	l     []api.SafetyGate
	index int
	want  api.Errno
}

// allBadGates lists all errors of gates; most of them have errors that are listed later, or stand in later gates, too.
func allBadGates() []badGates {
	five := []string{"a", "b", "c", "d", "e"}
	l := []badGates{
		{"nothing", nil, 0, api.ErrShape},
		{"empty", []api.SafetyGate{}, 0, api.ErrShape},
		{"seven", make([]api.SafetyGate, 7), 0, api.ErrLarge},
		{"seven good ones", gates(7), 0, api.ErrLarge},
		{"very many", make([]api.SafetyGate, 1000000), 0, api.ErrLarge},
		{"twice", []api.SafetyGate{gate("a", 1), gate("a", 1, five...)}, 1, api.ErrExists},
		{"the last one twice", append(gates(5), gate("b", -1)), 5, api.ErrExists},
		{"five roles", []api.SafetyGate{gate("a", 1), gate("b", -1, "?", "?", "?", "?", "?"), {}}, 1, api.ErrLarge},
		{"five good roles", append(gates(5), gate("z", 1, five...)), 5, api.ErrLarge},
		{"very many roles", []api.SafetyGate{gate("a", 1, make([]string, 1000000)...)}, 0, api.ErrLarge},
		{"role twice", []api.SafetyGate{gate("a", -1, "x", "x")}, 0, api.ErrDouble},
		{"the last role twice", []api.SafetyGate{gate("a", 1), gate("b", 99, "w", "x", "y", "w")}, 1, api.ErrDouble},
		{"a role twice before one that is no name", []api.SafetyGate{gate("a", 1, "x", "x", "?")}, 0, api.ErrDouble},
		{"a role that is no name before one twice", []api.SafetyGate{gate("a", 1, "x", "?", "?")}, 0, api.ErrName},
	}
	for _, count := range []int{-1, 21, 999, math.MaxInt, math.MinInt} {
		l = append(l,
			badGates{"signs", []api.SafetyGate{gate("a", count), {}}, 0, api.ErrRange},
			badGates{"last signs", append(gates(5), gate("z", count, "x")), 5, api.ErrRange})
	}
	for _, name := range badNames() {
		l = append(l,
			badGates{"name " + name, []api.SafetyGate{gate(name, -1, five...), gate(name, 1)}, 0, api.ErrName},
			badGates{"last name " + name, append(gates(5), gate(name, 1)), 5, api.ErrName},
			badGates{"role " + name, []api.SafetyGate{gate("a", -1, name, name)}, 0, api.ErrName},
			badGates{"last role " + name, []api.SafetyGate{gate("a", 1), gate("b", 99, "x", "y", "z", name)}, 1, api.ErrName})
	}
	return l
}

// allGoodGates lists gates, those at the ends of what is permitted among them.
func allGoodGates() [][]api.SafetyGate {
	l := [][]api.SafetyGate{
		exampleGates(), gates(1), gates(6), {gate("a", 20, "a", "b", "c", "d"), gate("b", 0, "a", "b", "c", "d"), gate("A", 20)}, {gate("a", 1, "a", "A")},
	}
	for _, name := range goodNames() {
		l = append(l, []api.SafetyGate{gate("first", 1, name, "x"+name[1:]), gate(name, 3, "chief", name)})
	}
	return l
}

// badSigns is signatures for the gates of the examples with an error.
type badSigns struct {
	name   string
	signed []api.SafetySign
	want   api.Errno
}

// allBadSigns lists all errors of signatures; most of them have errors that are listed later, too.
func allBadSigns() []badSigns {
	ann := sign(0, "ann", "chief")
	l := []badSigns{
		{"twenty-one", make([]api.SafetySign, 21), api.ErrLarge},
		{"twenty-one good ones", manySigns(21), api.ErrLarge},
		{"twenty-one without a gate", slices.Repeat(signs(sign(9, "?", "?")), 21), api.ErrLarge},
		{"very many", make([]api.SafetySign, 1000000), api.ErrLarge},
		{"twice", signs(ann, ann, sign(9, "?", "?")), api.ErrDouble},
		{"the last one twice", append(manySigns(19), manySigns(1)...), api.ErrDouble},
		{"twice before a gate that there is not", signs(ann, sign(1, "ann", "chief"), ann, sign(2, "ann", "chief")), api.ErrDouble},
	}
	for _, gate := range []int{-1, 2, 3, math.MaxInt, math.MinInt} {
		l = append(l,
			badSigns{"gate", signs(sign(gate, "?", "?"), ann, ann), api.ErrMissing},
			badSigns{"last gate", append(manySigns(19), sign(gate, "ann", "chief")), api.ErrMissing})
	}
	for _, name := range badNames() {
		l = append(l,
			badSigns{"person " + name, signs(sign(0, name, "chief"), sign(9, name, "chief")), api.ErrName},
			badSigns{"role " + name, signs(sign(1, "ann", name), sign(1, "ann", name)), api.ErrName},
			badSigns{"last person " + name, append(manySigns(19), sign(1, name, "chief")), api.ErrName},
			badSigns{"last role " + name, append(manySigns(19), sign(1, "ann", name)), api.ErrName})
	}
	return l
}

// manySigns returns so many signatures for the first gate.
func manySigns(count int) []api.SafetySign {
	var signed []api.SafetySign
	for i := range count {
		signed = append(signed, sign(0, letters(26)[i%20], []string{"chief", "owner"}[i/20]))
	}
	return signed
}

// P9.5
func TestCheckGates(t *testing.T) {
	for _, l := range allGoodGates() {
		index, e := safety.CheckGates(l)
		mustBe(t, l, index, e, 0, api.OK)
	}
	for _, b := range allBadGates() {
		index, e := safety.CheckGates(b.l)
		mustBe(t, b.name, index, e, b.index, b.want)
	}
}

// P9.5, example 6, and edge cases
func TestLevelBy(t *testing.T) {
	low, high := sign(0, "ann", "chief"), sign(1, "ann", "chief")
	for _, y := range []struct {
		name   string
		l      []api.SafetyGate
		signed []api.SafetySign
		want   int
	}{
		{"example", exampleGates(), signs(low, high), 1},
		{"with bob", exampleGates(), signs(low, high, sign(1, "bob", "owner")), 2},
		{"in another order", exampleGates(), signs(sign(1, "bob", "owner"), high, low), 2},
		{"one person in both roles", exampleGates(), signs(low, high, sign(1, "ann", "owner")), 1},
		{"one person in both roles, and another one", exampleGates(), signs(low, high, sign(1, "ann", "owner"), sign(1, "bob", "guest")), 2},
		{"without the first gate", exampleGates(), signs(high, sign(1, "bob", "owner")), 0},
		{"without signatures", exampleGates(), nil, 0},
		{"another role", exampleGates(), signs(sign(0, "ann", "owner")), 0},
		{"another case", exampleGates(), signs(sign(0, "ann", "Chief")), 0},
		{"another role, and the right one", exampleGates(), signs(sign(0, "ann", "owner"), sign(0, "bob", "chief")), 1},
		{"a role alone", []api.SafetyGate{gate("a", 0, "chief")}, nil, 0},
		{"a role that is signed", []api.SafetyGate{gate("a", 0, "chief")}, signs(low), 1},
		{"no signatures needed", gates(1), nil, 1},
		{"none of six needed", gates(6), nil, 6},
		{"none of six needed, but some given", gates(6), signs(low, high), 6},
		{"the second one closed", []api.SafetyGate{gate("a", 0), gate("b", 1), gate("c", 0)}, nil, 1},
		{"all but the last one open", append(gates(5), gate("z", 1)), signs(low, high), 5},
		{"twenty persons", []api.SafetyGate{gate("a", 20, "chief")}, manySigns(20), 1},
		{"nineteen of twenty persons", []api.SafetyGate{gate("a", 20, "chief")}, manySigns(19), 0},
		{"one of twenty for another gate", []api.SafetyGate{gate("a", 20, "chief"), gate("b", 1)}, append(manySigns(19), sign(1, "z", "chief")), 0},
	} {
		level, e := safety.LevelBy(y.l, y.signed)
		mustBe(t, y.name, level, e, y.want, api.OK)
	}
}

// P9.5, example 6
func TestMissingAt(t *testing.T) {
	low, high := sign(0, "ann", "chief"), sign(1, "ann", "chief")
	four := []api.SafetyGate{gate("a", 9, "d", "c", "b", "a"), gate("b", 1)}
	for _, y := range []struct {
		name   string
		l      []api.SafetyGate
		gate   int
		signed []api.SafetySign
		want   []int
	}{
		{"example", exampleGates(), 1, signs(low, high), ints(1)},
		{"example at low", exampleGates(), 0, signs(low, high), nil},
		{"with bob", exampleGates(), 1, signs(low, high, sign(1, "bob", "owner")), nil},
		{"bob alone", exampleGates(), 1, signs(low, sign(1, "bob", "owner")), ints(0)},
		{"signatures for the other gate", exampleGates(), 1, signs(low, sign(0, "ann", "owner")), ints(0, 1)},
		{"signatures for the other gate, at low", exampleGates(), 0, signs(high), ints(0)},
		{"without signatures", exampleGates(), 1, nil, ints(0, 1)},
		{"one person", exampleGates(), 1, signs(high, sign(1, "ann", "owner")), nil},
		{"behind a gate that is closed", exampleGates(), 1, signs(high, sign(1, "bob", "owner")), nil},
		{"four", four, 0, nil, ints(0, 1, 2, 3)},
		{"four, but the second one and the last one", four, 0, signs(sign(0, "ann", "a"), sign(0, "bob", "c")), ints(0, 2)},
		{"no roles", four, 1, nil, nil},
	} {
		missing, e := safety.MissingAt(y.l, y.gate, y.signed)
		mustBe(t, y.name, missing, e, y.want, api.OK)
	}
	for _, gate := range []int{-1, 2, 3, math.MaxInt, math.MinInt} {
		missing, e := safety.MissingAt(exampleGates(), gate, nil)
		mustFail(t, gate, missing, e, api.ErrMissing)
	}
}

// P9.5: the errors of the gates come first, then a gate that there is not, then the errors of the signatures.
func TestErrorsOfGates(t *testing.T) {
	for _, b := range allBadGates() {
		for _, signed := range [][]api.SafetySign{nil, manySigns(3), make([]api.SafetySign, 21)} {
			level, e := safety.LevelBy(b.l, signed)
			mustFail(t, b.name, level, e, b.want)
			for _, gate := range []int{0, -1, 99} {
				missing, e := safety.MissingAt(b.l, gate, signed)
				mustFail(t, b.name, missing, e, b.want)
			}
		}
	}
	for _, b := range allBadSigns() {
		level, e := safety.LevelBy(exampleGates(), b.signed)
		mustFail(t, b.name, level, e, b.want)
		for _, gate := range []int{0, 1} {
			missing, e := safety.MissingAt(exampleGates(), gate, b.signed)
			mustFail(t, b.name, missing, e, b.want)
		}
		for _, gate := range []int{-1, 2} {
			missing, e := safety.MissingAt(exampleGates(), gate, b.signed)
			mustFail(t, b.name, missing, e, api.ErrMissing)
		}
	}
	// Persons and roles may be called as they like, and a person may sign in several roles and for several gates.
	for _, name := range goodNames() {
		signed := signs(sign(0, name, "chief"), sign(0, "ann", name), sign(0, name, name), sign(1, name, name), sign(1, name, "chief"))
		level, e := safety.LevelBy(exampleGates(), signed)
		mustBe(t, name, level, e, 1, api.OK)
	}
}

// someGates returns gates.
func someGates(random *rand.Rand) []api.SafetyGate {
	var l []api.SafetyGate
	for i := range 1 + random.IntN(api.MaxSafetyGates) {
		var roles []string
		for _, role := range random.Perm(4)[:random.IntN(3)] {
			roles = append(roles, letters(4)[role])
		}
		l = append(l, gate(letters(6)[i]+"-", random.IntN(3), roles...))
	}
	return l
}

// someSigns returns signatures for so many gates.
func someSigns(random *rand.Rand, gates int) []api.SafetySign {
	var signed []api.SafetySign
	for range random.IntN(api.MaxSafetySigns + 1) {
		x := sign(random.IntN(gates), []string{"ann", "bob", "zoe"}[random.IntN(3)], letters(4)[random.IntN(4)])
		if !slices.Contains(signed, x) {
			signed = append(signed, x)
		}
	}
	return signed
}

// P9.5: by hand
func TestGatesByHand(t *testing.T) {
	levels := map[int]int{}
	random := fixedRandom()
	for range 2000 {
		l := someGates(random)
		signed := someSigns(random, min(len(l), 3))
		level, e := safety.LevelBy(l, signed)
		mustBe(t, l, level, e, levelByHand(l, signed), api.OK)
		levels[level]++
		for i, g := range l {
			var want []int
			for role, name := range g.Roles {
				isMissing := true
				for _, x := range signed {
					isMissing = isMissing && (x.Gate != i || x.Role != name)
				}
				if isMissing {
					want = append(want, role)
				}
			}
			missing, e := safety.MissingAt(l, i, signed)
			mustBe(t, l, missing, e, want, api.OK)
		}
	}
	for level := range 4 {
		if levels[level] < 20 {
			t.Error(levels)
		}
	}
}

// P9.12: a further signature lowers no level; without the signatures for a gate the level is at most its index, if it needs any.
func TestOnlyBehindItsGate(t *testing.T) {
	random := fixedRandom()
	for range 1000 {
		l := someGates(random)
		signed := someSigns(random, len(l))
		level, e := safety.LevelBy(l, signed)
		mustBe(t, l, level, e, levelByHand(l, signed), api.OK)
		for i := range signed {
			before, e := safety.LevelBy(l, signed[:i])
			if e != api.OK || before > level {
				t.Error(l, signed, i, before, level)
			}
		}
		for i, g := range l {
			others := slices.DeleteFunc(slices.Clone(signed), func(x api.SafetySign) bool { return x.Gate == i })
			without, e := safety.LevelBy(l, others)
			if e != api.OK || g.Signs+len(g.Roles) > 0 && without > i {
				t.Error(l, others, i, without)
			}
		}
	}
}
