package oil

import "ductility/api"

// watched is a plant with the demands that may come, for ever, and the volume that it is to keep.
type watched struct {
	plant
	demands api.Range
	least   int
}

// watchedOf returns a plant that is watched, or the first error of the arguments.
func watchedOf(p api.OilPlant, demands api.Range, limit int) (watched, api.Errno) {
	checked, e := plantOf(p, demandsError(demands), limitError(limit))
	if e != api.OK {
		return watched{}, e
	}
	return watched{checked, demands, checked.pressures.reaching(limit)}, api.OK
}

// isBroken tells whether a state has too little oil, or a demand empties the plant.
func (w watched) isBroken(s api.OilState) bool {
	// The greatest demand leaves the least oil.
	return s.Volume < w.least || w.next(s, w.demands.Hi).Volume == emptied
}

// leaves tells whether a demand leads from a state to one that is not in a set.
func (w watched) leaves(s api.OilState, set map[api.OilState]bool) bool {
	for demand := w.demands.Lo; demand <= w.demands.Hi; demand++ {
		if !set[w.next(s, demand)] {
			return true
		}
	}
	return false
}

// reduce deletes states from a set until no demand leads out of it. What remains is the greatest such set, whatever the order is.
func (w watched) reduce(set map[api.OilState]bool) {
	for isReduced := false; !isReduced; {
		isReduced = true
		for s := range set {
			if w.leaves(s, set) {
				delete(set, s)
				isReduced = false
			}
		}
	}
}

// SafeFor returns the safe states for a range of demands and a limit.
func SafeFor(p api.OilPlant, demand api.Range, limit int) ([]api.OilState, api.Errno) {
	w, e := watchedOf(p, demand, limit)
	if e != api.OK {
		return nil, e
	}
	set := map[api.OilState]bool{}
	for s := range w.states() {
		if !w.isBroken(s) {
			set[s] = true
		}
	}
	w.reduce(set)
	var safe []api.OilState
	for s := range w.states() {
		if set[s] {
			safe = append(safe, s)
		}
	}
	return safe, api.OK
}

// CheckSafe accepts a safe set of states, otherwise it returns the index of the first state that is wrong.
func CheckSafe(p api.OilPlant, demand api.Range, limit int, states []api.OilState) (int, api.Errno) {
	w, e := watchedOf(p, demand, limit)
	if e != api.OK {
		return 0, e
	}
	i, e := checkItems(states, func(i int, s api.OilState) api.Errno {
		return firstOf(w.stateError(s), when(!comesLater(states, i), api.ErrOrder))
	})
	if e != api.OK {
		return i, e
	}
	set := map[api.OilState]bool{}
	for _, s := range states {
		set[s] = true
	}
	return checkItems(states, func(_ int, s api.OilState) api.Errno {
		return firstOf(when(w.isBroken(s), api.ErrBreak), when(w.leaves(s, set), api.ErrOpen))
	})
}

// comesLater tells whether a state comes after the one before, if there is one.
func comesLater(states []api.OilState, i int) bool {
	return i == 0 || rank(states[i]) > rank(states[i-1])
}
