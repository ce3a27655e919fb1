package modal

import (
	"iter"
	"slices"
	"sort"

	"ductility/api"
)

// polynomial is the coefficients of 1, s, s s, .. for a square s.
type polynomial [api.MaxModalStoreys + 1]int

// times returns the product with a constant plus a slope times s; the highest coefficient is 0 if the slope is not.
func (p polynomial) times(constant, slope int) polynomial {
	var product polynomial
	lower := 0
	for i, coefficient := range p {
		product[i] = constant*coefficient + slope*lower
		lower = coefficient
	}
	return product
}

// minus returns the difference.
func (p polynomial) minus(other polynomial) polynomial {
	for i, coefficient := range other {
		p[i] -= coefficient
	}
	return p
}

// at returns the value for a square, times its denominator to the fourth power. All of them fit into int: for the
// numerators up to mostEnclosed no determinant is greater in size than 40025 to the fourth power.
func (p polynomial) at(square api.Frac) int {
	value, factor := 0, 1
	for _, coefficient := range slices.Backward(p[:]) {
		value = value*square.Num + coefficient*factor
		factor *= square.Den
	}
	return value
}

// frame is a frame without errors.
type frame struct{ api.ModalFrame }

// frameOf returns a frame, or the first error of it and of further arguments.
func frameOf(f api.ModalFrame, further ...api.Errno) (frame, api.Errno) {
	_, e := CheckFrame(f)
	if e = firstOf(e, firstOf(further...)); e != api.OK {
		return frame{}, e
	}
	return frame{f}, api.OK
}

// stiffness returns the force at a storey for a displacement of 1 of this storey alone.
func (f frame) stiffness(storey int) int {
	if storey+1 == len(f.Springs) {
		return f.Springs[storey]
	}
	return f.Springs[storey] + f.Springs[storey+1]
}

// determinants yields the determinants, from d[-1] on, as polynomials of the square.
func (f frame) determinants() iter.Seq[polynomial] {
	return func(yield func(polynomial) bool) {
		before, last := polynomial{}, polynomial{1}
		for i, mass := range f.Masses {
			if !yield(last) {
				return
			}
			spring := f.Springs[i]
			next := last.times(f.stiffness(i), -mass).minus(before.times(spring*spring, 0))
			before, last = last, next
		}
		yield(last)
	}
}

// valuesAt returns the determinants for a square, from d[-1] on, all multiplied by the same number above 0.
func (f frame) valuesAt(square api.Frac) []int {
	var values []int
	for p := range f.determinants() {
		values = append(values, p.at(square))
	}
	return values
}

// countBelow returns how many modes have a smaller square.
func (f frame) countBelow(square api.Frac) int {
	// A determinant of 0 in between stands between two of opposite signs, and makes one change with them whatever its
	// sign is for a smaller square. If the last one is 0, it has the sign of the one before it for smaller squares.
	return changesIn(f.valuesAt(square))
}

// isMode tells whether a square belongs to a mode.
func (f frame) isMode(square api.Frac) bool {
	values := f.valuesAt(square)
	return values[len(values)-1] == 0
}

// countUpTo returns how many modes have a smaller square, or this one.
func (f frame) countUpTo(square api.Frac) int {
	if f.isMode(square) {
		return f.countBelow(square) + 1
	}
	return f.countBelow(square)
}

// mostEnclosed is the greatest end of an enclosure: no square is greater than 4 times the greatest spring.
const mostEnclosed = 4 * api.MaxModalSpring * api.MaxModalDen

// enclosure returns the enclosure of a mode for a denominator.
func (f frame) enclosure(mode, den int) api.Range {
	above := sort.Search(mostEnclosed+1, func(x int) bool {
		return f.countBelow(api.Frac{Num: x, Den: den}) > mode
	})
	up := sort.Search(mostEnclosed, func(x int) bool {
		return f.countUpTo(api.Frac{Num: x, Den: den}) > mode
	})
	return api.Range{Lo: above - 1, Hi: up}
}
