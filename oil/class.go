package oil

import (
	"iter"
	"slices"

	"ductility/api"
)

// reached is a state, and the lexicographically first demands that lead to it.
type reached struct {
	api.OilState
	demands []int
}

// rank returns a number that is greater for a later state; that of an emptied plant is not below 0, either.
func rank(s api.OilState) int {
	n := 2 * (s.Volume - emptied)
	if s.Running {
		n++
	}
	return n
}

// after returns the states after all demands of a range; both lists have the order of the demands that lead there.
func (p plant) after(states []reached, demands api.Range) []reached {
	var next []reached
	var isKnown [2 * (api.MaxOilVolume - emptied + 1)]bool
	for _, x := range states {
		for demand := demands.Lo; demand <= demands.Hi; demand++ {
			// What leads to a known state comes later: it cannot be the beginning of first demands.
			if s := p.next(x.OilState, demand); !isKnown[rank(s)] {
				isKnown[rank(s)] = true
				next = append(next, reached{s, slices.Concat(x.demands, []int{demand})})
			}
		}
	}
	return next
}

// ticks yields the states of a class after each number of ticks. Nothing follows from an emptied plant: whoever finds one stops.
func (p plant) ticks(s api.OilState, class []api.Range) iter.Seq2[int, []reached] {
	return func(yield func(int, []reached) bool) {
		states := []reached{{OilState: s}}
		if !yield(0, states) {
			return
		}
		for i, demands := range class {
			states = p.after(states, demands)
			if !yield(i+1, states) {
				return
			}
		}
	}
}

// witness returns the witness of a class that is to keep a least volume, and whether there is one.
func (p plant) witness(s api.OilState, class []api.Range, least int) ([]int, bool) {
	for _, states := range p.ticks(s, class) {
		for _, x := range states {
			if x.Volume < least {
				return x.demands, true
			}
		}
	}
	return nil, false
}

// permits tells whether a class is permitted by a limit.
func (p plant) permits(s api.OilState, class []api.Range, limit int) bool {
	_, isBroken := p.witness(s, class, p.pressures.reaching(limit))
	return !isBroken
}

// plantFor returns a plant that no demands of a class empty, or the first error.
func plantFor(p api.OilPlant, s api.OilState, class []api.Range) (plant, api.Errno) {
	checked, e := plantIn(p, s, classError(class))
	if e != api.OK {
		return plant{}, e
	}
	if _, isEmptied := checked.witness(s, class, 0); isEmptied {
		return plant{}, api.ErrBreak
	}
	return checked, api.OK
}

// CheckClass returns the error of a class, with the index of its range.
func CheckClass(class []api.Range) (int, api.Errno) {
	if len(class) > api.MaxOilTicks {
		return 0, api.ErrLarge
	}
	return checkItems(class, func(_ int, demands api.Range) api.Errno { return demandsError(demands) })
}

// ReachedBy returns the states of a class after all of its ticks.
func ReachedBy(p api.OilPlant, s api.OilState, class []api.Range) ([]api.OilState, api.Errno) {
	checked, e := plantFor(p, s, class)
	if e != api.OK {
		return nil, e
	}
	var last []reached
	for _, states := range checked.ticks(s, class) {
		last = states
	}
	var all []api.OilState
	for _, x := range last {
		all = append(all, x.OilState)
	}
	slices.SortFunc(all, func(a, b api.OilState) int { return rank(a) - rank(b) })
	return all, api.OK
}

// LowestIn returns the tick and the lowest pressure of a class.
func LowestIn(p api.OilPlant, s api.OilState, class []api.Range) (int, api.Frac, api.Errno) {
	checked, e := plantFor(p, s, class)
	if e != api.OK {
		return 0, api.Frac{}, e
	}
	at, lowest := 0, s.Volume
	for tick, states := range checked.ticks(s, class) {
		for _, x := range states {
			if x.Volume < lowest {
				at, lowest = tick, x.Volume
			}
		}
	}
	return at, checked.pressures.at(lowest), api.OK
}

// WitnessOf returns the witness of a class that is not permitted by a limit.
func WitnessOf(p api.OilPlant, s api.OilState, class []api.Range, limit int) ([]int, api.Errno) {
	checked, e := plantIn(p, s, classError(class), limitError(limit))
	if e != api.OK {
		return nil, e
	}
	witness, isBroken := checked.witness(s, class, checked.pressures.reaching(limit))
	return witness, when(!isBroken, api.ErrNone)
}

// IsPermitted tells whether a class is permitted by a limit.
func IsPermitted(p api.OilPlant, s api.OilState, class []api.Range, limit int) (bool, api.Errno) {
	checked, e := plantIn(p, s, classError(class), limitError(limit))
	if e != api.OK {
		return false, e
	}
	return checked.permits(s, class, limit), api.OK
}
