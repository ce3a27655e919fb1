package drive

import (
	"iter"

	"ductility/api"
)

// mostGainDen is the greatest denominator of a gain.
const mostGainDen = 100

// rig is a rig without errors, with its plant, and with the inverse of its model.
type rig struct {
	api.DriveRig
	plant   matrix
	inverse quotient
}

// rigOf returns a rig, or the first error of it and of further arguments.
func rigOf(r api.DriveRig, further ...api.Errno) (rig, api.Errno) {
	plant, e := matrixOf(r.Plant)
	model, modelError := matrixOf(r.Model)
	if e = firstOf(e, modelError, when(len(plant) != len(model), api.ErrClash)); e != api.OK {
		return rig{}, e
	}
	inverse, e := model.inverse()
	isFar := !areWithin(0, api.MaxDriveStep, r.Step)
	if e = firstOf(e, gainError(r.Gain), when(isFar, api.ErrRange), firstOf(further...)); e != api.OK {
		return rig{}, e
	}
	return rig{r, plant, inverse}, api.OK
}

// rigFor returns a rig, or the first error of it, of a target, of a drive, and of further arguments.
func rigFor(r api.DriveRig, target, drive []api.Gauss, further ...api.Errno) (rig, api.Errno) {
	size := len(r.Plant)
	return rigOf(r, listError(target, size), listError(drive, size), firstOf(further...))
}

// missing returns a target minus the response to a drive.
func (r rig) missing(target, drive row) row {
	return target.minus(r.plant.response(drive))
}

// correction returns the correction for a target and a drive.
func (r rig) correction(target, drive row) row {
	wanted := r.inverse.response(r.missing(target, drive))
	return wanted.each(func(x complex128) complex128 {
		return complex(r.step(real(x)), r.step(imag(x)))
	})
}

// step returns the part of a correction for one of the quotient by which the model is inverted.
func (r rig) step(part float64) float64 {
	n := nearest(int(part)*r.Gain.Num, r.inverse.den*r.Gain.Den)
	return float64(max(-r.Step, min(r.Step, n)))
}

// nearest returns the whole number that is nearest to a quotient, the one that is nearer to 0 if there are two.
func nearest(num, den int) int {
	if num < 0 {
		return -nearest(-num, den)
	}
	return (2*num + den - 1) / (2 * den)
}

// rounds yields the drives of so many rounds, and ErrBreak instead of the first one that is too great.
func (r rig) rounds(target, drive row, count int) iter.Seq2[row, api.Errno] {
	return func(yield func(row, api.Errno) bool) {
		last := drive
		for range count {
			next := last.plus(r.correction(target, last))
			if !next.isWithin(api.MaxDriveLevel) {
				yield(nil, api.ErrBreak)
				return
			}
			if !yield(next, api.OK) {
				return
			}
			last = next
		}
	}
}

// isReached tells whether a target is reached within a number by a drive.
func (r rig) isReached(target, drive row, within int) bool {
	return r.missing(target, drive).isWithin(within)
}

// CheckRig returns the error of a rig.
func CheckRig(r api.DriveRig) api.Errno {
	_, e := rigOf(r)
	return e
}

// CorrectionOf returns the correction for a target and a drive.
func CorrectionOf(r api.DriveRig, target, drive []api.Gauss) ([]api.Gauss, api.Errno) {
	checked, e := rigFor(r, target, drive)
	if e != api.OK {
		return nil, e
	}
	return checked.correction(rowOf(target), rowOf(drive)).list(), api.OK
}

// RoundsOf returns the drives of so many rounds.
func RoundsOf(r api.DriveRig, target, drive []api.Gauss, rounds int) ([][]api.Gauss, api.Errno) {
	checked, e := rigFor(r, target, drive, when(!areWithin(0, api.MaxDriveRounds, rounds), api.ErrRange))
	if e != api.OK {
		return nil, e
	}
	var drives [][]api.Gauss
	for next, e := range checked.rounds(rowOf(target), rowOf(drive), rounds) {
		if e != api.OK {
			return nil, e
		}
		drives = append(drives, next.list())
	}
	return drives, api.OK
}

// ReachedIn returns after how many rounds a target is reached within a number.
func ReachedIn(r api.DriveRig, target, drive []api.Gauss, within int) (int, api.Errno) {
	checked, e := rigFor(r, target, drive, when(!areWithin(0, api.MaxDriveLevel, within), api.ErrRange))
	if e != api.OK {
		return 0, e
	}
	goal, start := rowOf(target), rowOf(drive)
	if checked.isReached(goal, start, within) {
		return 0, api.OK
	}
	round := 0
	for next, e := range checked.rounds(goal, start, api.MaxDriveRounds) {
		round++
		if e != api.OK {
			return 0, e
		}
		if checked.isReached(goal, next, within) {
			return round, api.OK
		}
	}
	return 0, api.ErrNone
}

// ContractionOf returns by which factor an error shrinks in a round.
func ContractionOf(r api.DriveRig) (api.Frac, api.Errno) {
	checked, e := rigOf(r)
	if e != api.OK {
		return api.Frac{}, e
	}
	den := checked.inverse.den * checked.Gain.Den
	removed := checked.plant.times(checked.inverse.matrix).multiple(api.Gauss{Re: checked.Gain.Num})
	left := one(len(removed)).multiple(api.Gauss{Re: den}).minus(removed)
	return fraction(left.rowSum(), den)
}
