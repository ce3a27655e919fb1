package modal

import "ductility/api"

// changesIn returns the changes of sign in numbers, without those that are 0.
func changesIn(numbers []int) int {
	changes, last := 0, 0
	for _, n := range numbers {
		sign := signOf(n)
		if sign*last < 0 {
			changes++
		}
		if sign != 0 {
			last = sign
		}
	}
	return changes
}

// NodesOf returns the nodes of numbers.
func NodesOf(parts []int) (int, api.Errno) {
	if len(parts) > api.MaxModalSamples {
		return 0, api.ErrLarge
	}
	return changesIn(parts), api.OK
}

// SwayOf returns how a frame sways under loads on its storeys.
func SwayOf(f api.ModalFrame, loads []int) (api.ModalShape, api.Errno) {
	_, e := frameOf(f, loadsError(loads, len(f.Masses)))
	if e != api.OK {
		return api.ModalShape{}, e
	}
	carried, den := 0, 1
	for i, spring := range f.Springs {
		carried += loads[i]
		den *= spring
	}
	// A spring carries its storey and all those above it.
	var parts []int
	part := 0
	for i, spring := range f.Springs {
		part += carried * (den / spring)
		carried -= loads[i]
		parts = append(parts, part)
	}
	return shape(den, parts), api.OK
}

// ShapeAt returns the shape of a frame at a square, and the sign of what is missing.
func ShapeAt(f api.ModalFrame, square api.Frac) (api.ModalShape, int, api.Errno) {
	checked, e := frameOf(f, squareError(square))
	if e != api.OK {
		return api.ModalShape{}, 0, e
	}
	// The displacement of a storey is the determinant of those below it, divided by all springs between them; and so is
	// what is missing, as if it were the displacement above the top.
	values := checked.valuesAt(square)
	den := values[0]
	var parts []int
	for i, spring := range f.Springs {
		if i > 0 {
			den *= spring
			for k := range parts {
				parts[k] *= spring
			}
		}
		parts = append(parts, values[i])
	}
	return shape(den, parts), signOf(values[len(parts)]), api.OK
}
