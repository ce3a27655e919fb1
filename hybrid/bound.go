package hybrid

import (
	"iter"
	"slices"

	"ductility/api"
)

// arrival is the state before one that is reached, and the force that leads from it.
type arrival struct {
	before state
	force  int
}

// search is the reached states of a test, those that are reached by fewer forces first, then those that are by the lexicographically first ones, and how each of them is.
type search struct {
	states   []state
	arrivals map[state]arrival
}

// outcomes yields the permitted forces, each with the next displacement of a state.
func (x test) outcomes(s state) iter.Seq2[int, int] {
	return func(yield func(force, displacement int) bool) {
		for force := x.Forces.Lo; force <= x.Forces.Hi; force++ {
			if !yield(force, x.moved(s, force)) {
				return
			}
		}
	}
}

// searched returns the reached states.
func (x test) searched() search {
	var beginning state
	found := search{[]state{beginning}, map[state]arrival{beginning: {}}}
	for i := 0; i < len(found.states); i++ {
		s := found.states[i]
		for force, displacement := range x.outcomes(s) {
			next := x.after(s, displacement)
			if _, isFound := found.arrivals[next]; isFound || x.leaves(displacement) {
				continue
			}
			found.states = append(found.states, next)
			found.arrivals[next] = arrival{s, force}
		}
	}
	return found
}

// forcesTo returns the shortest list of forces that leads to a reached state, of several the lexicographically first one.
func (found search) forcesTo(s state) []int {
	var forces []int
	for s != (state{}) {
		last := found.arrivals[s]
		forces = append(forces, last.force)
		s = last.before
	}
	slices.Reverse(forces)
	return forces
}

// breaking returns the forces that break a test, none if it holds.
func (x test) breaking() []int {
	found := x.searched()
	for _, s := range found.states {
		for force, displacement := range x.outcomes(s) {
			if x.leaves(displacement) {
				return append(found.forcesTo(s), force)
			}
		}
	}
	return nil
}

// holds tells whether a test holds.
func (x test) holds() bool { return len(x.breaking()) == 0 }

// closedError returns the error of a state of a set that is to be closed.
func (x test) closedError(s state, set map[state]bool) api.Errno {
	isOpen := false
	for _, displacement := range x.outcomes(s) {
		if x.leaves(displacement) {
			return api.ErrBreak
		}
		isOpen = isOpen || !set[x.after(s, displacement)]
	}
	return when(isOpen, api.ErrOpen)
}

// ReachedBy returns all reached states, in order.
func ReachedBy(x api.HybridTest) ([][]int, api.Errno) {
	checked, e := testOf(x)
	if e != api.OK {
		return nil, e
	}
	var reached [][]int
	for _, s := range checked.searched().states {
		reached = append(reached, checked.listed(s))
	}
	slices.SortFunc(reached, slices.Compare)
	return reached, api.OK
}

// Holds returns whether a test holds.
func Holds(x api.HybridTest) (bool, api.Errno) {
	checked, e := testOf(x)
	if e != api.OK {
		return false, e
	}
	return checked.holds(), api.OK
}

// CheckClosed accepts a closed set of states, or returns the index of the first one with an error.
func CheckClosed(x api.HybridTest, states [][]int) (int, api.Errno) {
	checked, e := testOf(x)
	if e != api.OK {
		return 0, e
	}
	set := map[state]bool{}
	index, e := checkItems(states, func(i int, s []int) api.Errno {
		set[stateOf(s)] = true
		isUnordered := i > 0 && slices.Compare(states[i-1], s) >= 0
		return firstOf(checked.stateError(s), when(isUnordered, api.ErrOrder))
	})
	if e = firstOf(e, when(!set[state{}], api.ErrMissing)); e != api.OK {
		return index, e
	}
	return checkItems(states, func(_ int, s []int) api.Errno {
		return checked.closedError(stateOf(s), set)
	})
}

// BrokenBy returns the forces that break a test.
func BrokenBy(x api.HybridTest) ([]int, api.Errno) {
	checked, e := testOf(x)
	if e != api.OK {
		return nil, e
	}
	forces := checked.breaking()
	return forces, when(len(forces) == 0, api.ErrNone)
}

// GreatestDelay returns the greatest delay up to which a test holds.
func GreatestDelay(x api.HybridTest) (int, api.Errno) {
	checked, e := testOf(x)
	if e != api.OK {
		return 0, e
	}
	delays := 0
	for delay := range api.MaxHybridDelay + 1 {
		checked.Delay = delay
		if !checked.holds() {
			break
		}
		delays++
	}
	if delays == 0 {
		return 0, api.ErrNone
	}
	return delays - 1, api.OK
}
