package model

import (
	"slices"

	"ductility/api"
)

// frame is a frame without errors.
type frame struct{ api.ModelFrame }

// frameOf returns a frame, or the first error of it and of further arguments.
func frameOf(f api.ModelFrame, further ...api.Errno) (frame, api.Errno) {
	_, e := CheckFrame(f)
	if e = firstOf(e, firstOf(further...)); e != api.OK {
		return frame{}, e
	}
	return frame{f}, api.OK
}

// stiffness returns the sum of all stiffnesses of a storey, 0 above the last one.
func (f frame) stiffness(storey int) int {
	if storey == len(f.Floors) {
		return 0
	}
	return sumOf(begin(f.Floors[storey].Spring).elements(), element.stiffness)
}

// CheckFrame returns the error of a frame, with the index of its floor.
func CheckFrame(f api.ModelFrame) (int, api.Errno) {
	if e := countError(len(f.Floors), api.MaxModelFloors); e != api.OK {
		return 0, e
	}
	return checkItems(f.Floors, func(_ int, x api.ModelFloor) api.Errno {
		isOutside := !areWithin(1, api.MaxModelMass, x.Mass) || !areWithin(1, api.MaxModelLimit, x.Limit)
		_, springError := CheckSpring(x.Spring)
		return firstOf(when(isOutside, api.ErrRange), springError)
	})
}

// StiffnessOf returns the stiffness of a frame.
func StiffnessOf(f api.ModelFrame) ([][]int, api.Errno) {
	checked, e := frameOf(f)
	if e != api.OK {
		return nil, e
	}
	var rows [][]int
	for i := range f.Floors {
		row := make([]int, len(f.Floors))
		below, above := checked.stiffness(i), checked.stiffness(i+1)
		row[i] = below + above
		if i > 0 {
			row[i-1] = -below
		}
		if i+1 < len(row) {
			row[i+1] = -above
		}
		rows = append(rows, row)
	}
	return rows, api.OK
}

// DriftsUnder returns the drifts of a frame under forces on its floors.
func DriftsUnder(f api.ModelFrame, forces []int) ([]api.Frac, api.Errno) {
	isUneven := len(forces) != len(f.Floors)
	checked, e := frameOf(f, when(isUneven, api.ErrShape), limitError(api.MaxModelForce, forces...))
	if e != api.OK {
		return nil, e
	}
	drifts := make([]api.Frac, len(forces))
	sum := 0
	for i, force := range slices.Backward(forces) {
		sum += force
		drifts[i] = fraction(sum, checked.stiffness(i))
	}
	return drifts, api.OK
}
