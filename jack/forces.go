package jack

import "ductility/api"

// ForcesOf returns the shares of a wrench.
func ForcesOf(r api.JackRig, wrench api.JackWay) (api.JackShare, api.Errno) {
	checked, e := rigOf(r)
	if e = firstOf(e, wrenchError(wrench)); e != api.OK {
		return api.JackShare{}, e
	}
	x, isOnly := checked.matrix().solution(parts(wrench))
	if !isOnly {
		return api.JackShare{}, api.ErrOpen
	}
	// Forces are whole multiples of multipliers: what divides these divides them, too.
	forces := checked.lengths(parts(x.Parts)).list(len(r.Jacks))
	return api.JackShare{Forces: forces, Multipliers: x.Parts, Den: x.Den}, api.OK
}

// CheckForces accepts the shares of a wrench, otherwise it returns the index of the first jack, or part, that is wrong.
func CheckForces(r api.JackRig, wrench api.JackWay, x api.JackShare) (int, api.Errno) {
	checked, e := rigOf(r)
	if e = firstOf(e, wrenchError(wrench), shareError(r, x)); e != api.OK {
		return 0, e
	}
	given := lengthsOf(x.Forces)
	wrong := checked.lengths(parts(x.Multipliers)).minus(given)
	i, e := checkItems(wrong[:], func(_, n int) api.Errno {
		return when(n != 0, api.ErrProof)
	})
	if e != api.OK {
		return i, e
	}
	missing := checked.sum(given).plus(parts(wrench).times(-x.Den))
	i, e = checkItems(missing[:], func(_, n int) api.Errno {
		return when(n != 0, api.ErrClash)
	})
	if e != api.OK {
		return i, e
	}
	return 0, when(checked.rank() < len(x.Multipliers), api.ErrOpen)
}

// shareError returns the error of shares for a rig.
func shareError(r api.JackRig, x api.JackShare) api.Errno {
	if len(x.Forces) != len(r.Jacks) {
		return api.ErrShape
	}
	return quotientError(x.Den, append(x.Multipliers[:], x.Forces...))
}
