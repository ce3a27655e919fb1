package safety

import (
	"iter"
	"slices"

	"ductility/api"
)

// reached is a state that is reached, the index of the reached one before it, and the action between them. The first one has neither.
type reached struct {
	flags
	before, action int
}

// searched returns the reached states from a state, those that are reached by fewer actions first, then those that are by the lexicographically first ones.
func (m machine) searched(s flags) []reached {
	found := []reached{{flags: s}}
	var isFound [1 << api.MaxSafetyFlags]bool
	isFound[s] = true
	for i := 0; i < len(found); i++ {
		now := found[i]
		if now.passOne(m.harms) {
			continue
		}
		for by, next := range m.next(now.flags) {
			if !isFound[next] {
				isFound[next] = true
				found = append(found, reached{next, i, by})
			}
		}
	}
	return found
}

// harmFrom returns the harm from a state, and whether there is one.
func (m machine) harmFrom(s flags) ([]int, bool) {
	found := m.searched(s)
	i := slices.IndexFunc(found, func(x reached) bool { return x.passOne(m.harms) })
	if i < 0 {
		return nil, false
	}
	var actions []int
	for i > 0 {
		actions = append(actions, found[i].action)
		i = found[i].before
	}
	slices.Reverse(actions)
	return actions, true
}

// without returns a machine that does not have some of its actions.
func (m machine) without(barred []int) machine {
	left := machine{harms: m.harms}
	for i, a := range m.actions {
		if !slices.Contains(barred, i) {
			left.actions = append(left.actions, a)
		}
	}
	return left
}

// choices yields all sets of indexes below a number, smaller ones first, and of the same size the lexicographically first one first.
func choices(count int) iter.Seq[[]int] {
	return func(yield func(set []int) bool) {
		for size := range count + 1 {
			if !extend(nil, size, count, yield) {
				return
			}
		}
	}
}

// extend yields a set with so many further indexes behind its own, and tells whether more sets are wanted.
func extend(set []int, further, count int, yield func(set []int) bool) bool {
	if further == 0 {
		return yield(set)
	}
	from := 0
	if len(set) > 0 {
		from = set[len(set)-1] + 1
	}
	for i := from; i < count; i++ {
		if !extend(slices.Concat(set, []int{i}), further-1, count, yield) {
			return false
		}
	}
	return true
}

// closedError returns the error of a state of a set that is to be closed.
func (m machine) closedError(s flags, set []int) api.Errno {
	if s.passOne(m.harms) {
		return api.ErrBreak
	}
	for _, next := range m.next(s) {
		if !slices.Contains(set, int(next)) {
			return api.ErrOpen
		}
	}
	return api.OK
}

// ReachedFrom returns all reached states from a state.
func ReachedFrom(m api.SafetyMachine, state int) ([]int, api.Errno) {
	checked, s, e := machineAt(m, state)
	if e != api.OK {
		return nil, e
	}
	var all []int
	for _, x := range checked.searched(s) {
		all = append(all, int(x.flags))
	}
	slices.Sort(all)
	return all, api.OK
}

// CheckClosed accepts a closed set for a state, or returns the index of the first item with an error.
func CheckClosed(m api.SafetyMachine, state int, set []int) (int, api.Errno) {
	checked, _, e := machineAt(m, state)
	if e != api.OK {
		return 0, e
	}
	index, e := checkItems(set, func(i, item int) api.Errno {
		return firstOf(
			when(!isState(m, item), api.ErrRange),
			when(i > 0 && item <= set[i-1], api.ErrOrder))
	})
	if e != api.OK {
		return index, e
	}
	if !slices.Contains(set, state) {
		return 0, api.ErrMissing
	}
	return checkItems(set, func(_, item int) api.Errno { return checked.closedError(flags(item), set) })
}

// HarmFrom returns the harm from a state.
func HarmFrom(m api.SafetyMachine, state int) ([]int, api.Errno) {
	checked, s, e := machineAt(m, state)
	if e != api.OK {
		return nil, e
	}
	actions, isReached := checked.harmFrom(s)
	return actions, when(!isReached, api.ErrNone)
}

// BarredFor returns the barred actions for a state.
func BarredFor(m api.SafetyMachine, state int) ([]int, api.Errno) {
	checked, s, e := machineAt(m, state)
	if e = firstOf(e, when(s.passOne(checked.harms), api.ErrState)); e != api.OK {
		return nil, e
	}
	var barred []int
	// The last choice, all actions, suffices always: a state without actions reaches itself alone.
	for barred = range choices(len(checked.actions)) {
		if _, isReached := checked.without(barred).harmFrom(s); !isReached {
			break
		}
	}
	return barred, api.OK
}
