package safety

import (
	"slices"

	"ductility/api"
)

// gateError returns the error of a gate, but for those of its name.
func gateError(g api.SafetyGate) api.Errno {
	if len(g.Roles) > api.MaxSafetyRoles {
		return api.ErrLarge
	}
	_, e := checkItems(g.Roles, func(i int, _ string) api.Errno { return nameError(g.Roles, i, api.ErrDouble) })
	return firstOf(e, when(!areWithin(0, api.MaxSafetySigns, g.Signs), api.ErrRange))
}

// signedError returns the error of signatures for so many gates.
func signedError(signed []api.SafetySign, gates int) api.Errno {
	if len(signed) > api.MaxSafetySigns {
		return api.ErrLarge
	}
	_, e := checkItems(signed, func(i int, x api.SafetySign) api.Errno {
		return firstOf(
			when(!areWithin(0, gates-1, x.Gate), api.ErrMissing),
			when(!isName(x.Person) || !isName(x.Role), api.ErrName),
			when(slices.Contains(signed[:i], x), api.ErrDouble))
	})
	return e
}

// missingAt returns the indexes of all roles that are missing at a gate.
func missingAt(l []api.SafetyGate, gate int, signed []api.SafetySign) []int {
	var missing []int
	for i, role := range l[gate].Roles {
		isSigned := slices.ContainsFunc(signed, func(x api.SafetySign) bool { return x.Gate == gate && x.Role == role })
		if !isSigned {
			missing = append(missing, i)
		}
	}
	return missing
}

// personsAt returns how many persons have signed for a gate.
func personsAt(gate int, signed []api.SafetySign) int {
	persons := map[string]bool{}
	for _, x := range signed {
		if x.Gate == gate {
			persons[x.Person] = true
		}
	}
	return len(persons)
}

// CheckGates returns the error of gates, with the index of the gate.
func CheckGates(l []api.SafetyGate) (int, api.Errno) {
	if e := firstOf(when(len(l) == 0, api.ErrShape), when(len(l) > api.MaxSafetyGates, api.ErrLarge)); e != api.OK {
		return 0, e
	}
	var names []string
	for _, g := range l {
		names = append(names, g.Name)
	}
	return checkItems(l, func(i int, g api.SafetyGate) api.Errno {
		return firstOf(nameError(names, i, api.ErrExists), gateError(g))
	})
}

// MissingAt returns the indexes of all roles that are missing at a gate.
func MissingAt(l []api.SafetyGate, gate int, signed []api.SafetySign) ([]int, api.Errno) {
	_, e := CheckGates(l)
	isMissing := !areWithin(0, len(l)-1, gate)
	if e = firstOf(e, when(isMissing, api.ErrMissing), signedError(signed, len(l))); e != api.OK {
		return nil, e
	}
	return missingAt(l, gate, signed), api.OK
}

// LevelBy returns how many gates are open by signatures.
func LevelBy(l []api.SafetyGate, signed []api.SafetySign) (int, api.Errno) {
	_, e := CheckGates(l)
	if e = firstOf(e, signedError(signed, len(l))); e != api.OK {
		return 0, e
	}
	level := 0
	for gate, g := range l {
		// A gate that is closed closes all behind it.
		if len(missingAt(l, gate, signed)) > 0 || personsAt(gate, signed) < g.Signs {
			break
		}
		level++
	}
	return level, api.OK
}
