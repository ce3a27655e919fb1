package modal

import (
	"slices"

	"ductility/api"
)

// damagedBy returns the frame with what a damage leaves of it.
func (f frame) damagedBy(d api.ModalDamage) frame {
	springs := slices.Clone(f.Springs)
	springs[d.Storey] = d.Left
	return frame{api.ModalFrame{Masses: f.Masses, Springs: springs}}
}

// proofError returns ErrProof with the first mode whose enclosure has no number in common with its range.
func (f frame) proofError(x api.ModalAfter) (int, api.Errno) {
	return checkItems(x.Squares, func(mode int, square api.Range) api.Errno {
		_, agree := agreed(f.enclosure(mode, x.Den), square)
		return when(!agree, api.ErrProof)
	})
}

// leftAt returns the greatest spring below a storey that explains ranges, 0 if there is none.
func (f frame) leftAt(storey int, x api.ModalAfter) int {
	left := f.Springs[storey]
	for left > 0 {
		if _, e := f.damagedBy(api.ModalDamage{Storey: storey, Left: left}).proofError(x); e == api.OK {
			break
		}
		left--
	}
	return left
}

// ExplainedBy returns the explanation of ranges after a run for a frame.
func ExplainedBy(f api.ModalFrame, x api.ModalAfter) (api.ModalDamage, api.Errno) {
	checked, e := frameOf(f, afterError(x, len(f.Masses)))
	if e != api.OK {
		return api.ModalDamage{}, e
	}
	var best api.ModalDamage
	for storey, spring := range f.Springs {
		left := checked.leftAt(storey, x)
		// Left divided by the spring is compared; where nothing is found yet, Left is 0.
		if left*f.Springs[best.Storey] > best.Left*spring {
			best = api.ModalDamage{Storey: storey, Left: left}
		}
	}
	return best, when(best.Left == 0, api.ErrNone)
}

// CheckDamage accepts a damage that explains ranges after a run, or returns the first mode that it does not explain.
func CheckDamage(f api.ModalFrame, x api.ModalAfter, d api.ModalDamage) (int, api.Errno) {
	isMissing := !areWithin(0, len(f.Masses)-1, d.Storey)
	checked, e := frameOf(f, afterError(x, len(f.Masses)), when(isMissing, api.ErrMissing))
	if e != api.OK {
		return 0, e
	}
	if !areWithin(1, f.Springs[d.Storey], d.Left) {
		return 0, api.ErrRange
	}
	return checked.damagedBy(d).proofError(x)
}
