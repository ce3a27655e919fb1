package jack

import (
	"iter"

	"ductility/api"
)

// equation is a direction, and the extension that it is to have.
type equation [7]int

// extensionAt is the index of the extension in an equation.
const extensionAt = 6

// equationOf returns the equation of a direction and its extension.
func equationOf(direction api.JackWay, extension int) equation {
	x := equation{extensionAt: extension}
	copy(x[:], direction[:])
	return x
}

// lead returns the index of the first number that is not 0, as many as there are if there is none.
func (x equation) lead() int {
	for i, n := range x {
		if n != 0 {
			return i
		}
	}
	return len(x)
}

// without returns the equation without its number at the lead of another one.
func (x equation) without(other equation) equation {
	lead := other.lead()
	factor, otherFactor := other[lead], x[lead]
	for i := range x {
		x[i] = x[i]*factor - other[i]*otherFactor
	}
	return x.shortened()
}

// shortened returns the equation divided by all that divides it: so its numbers stay those of small determinants.
func (x equation) shortened() equation {
	if divisor := divisorOf(x[:]...); divisor > 1 {
		for i := range x {
			x[i] /= divisor
		}
	}
	return x
}

// system is independent equations; in each of them the leads of those before it are 0.
type system []equation

// rest returns what an equation says that the system does not.
func (s system) rest(x equation) equation {
	for _, known := range s {
		x = x.without(known)
	}
	return x
}

// system returns the independent equations of the jacks that are not in a set, and whether all others follow from them.
func (r rig) system(l lengths, without []int) (system, bool) {
	var isOut [api.MaxJackJacks]bool
	for _, i := range without {
		isOut[i] = true
	}
	var s system
	for i, j := range r.Jacks {
		if isOut[i] {
			continue
		}
		x := s.rest(equationOf(j.Direction, l[i]))
		if x.lead() == extensionAt {
			return nil, false
		}
		if x != (equation{}) {
			s = append(s, x)
		}
	}
	return s, true
}

// rank returns the rank of the directions.
func (r rig) rank() int {
	s, _ := r.system(lengths{}, nil)
	return len(s)
}

// setsOf yields all sets of numbers below n, small ones first, those of one size in lexicographic order.
func setsOf(n int) iter.Seq[[]int] {
	return func(yield func([]int) bool) {
		for size := range n + 1 {
			if !longer(nil, size, n, yield) {
				return
			}
		}
	}
}

// longer yields all sets that begin with a set and have so many further numbers below n; it tells whether to go on.
func longer(set []int, further, n int, yield func([]int) bool) bool {
	if further == 0 {
		return yield(set)
	}
	from := 0
	if len(set) > 0 {
		from = set[len(set)-1] + 1
	}
	for next := from; next < n; next++ {
		// The full slice lets append make a new one: no two sets share memory.
		if !longer(append(set[:len(set):len(set)], next), further-1, n, yield) {
			return false
		}
	}
	return true
}
