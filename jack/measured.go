package jack

import "ductility/api"

// poseFor returns the pose for extensions.
func (r rig) poseFor(l lengths) (api.JackPose, api.Errno) {
	x, isOnly := r.matrix().solution(r.sum(l))
	return x, when(!isOnly, api.ErrOpen)
}

// PoseOf returns the pose for extensions.
func PoseOf(r api.JackRig, extensions []int) (api.JackPose, api.Errno) {
	checked, e := rigOf(r)
	if e = firstOf(e, extensionsError(r, extensions)); e != api.OK {
		return api.JackPose{}, e
	}
	return checked.poseFor(lengthsOf(extensions))
}

// CheckPose accepts the pose for extensions, otherwise it returns the index of the first part whose equation does not hold.
func CheckPose(r api.JackRig, extensions []int, x api.JackPose) (int, api.Errno) {
	checked, e := rigOf(r)
	if e = firstOf(e, extensionsError(r, extensions), quotientError(x.Den, x.Parts[:])); e != api.OK {
		return 0, e
	}
	differences := checked.lengths(parts(x.Parts)).minus(lengthsOf(extensions).times(x.Den))
	sums := checked.sum(differences)
	i, e := checkItems(sums[:], func(_, sum int) api.Errno {
		return when(sum != 0, api.ErrProof)
	})
	if e != api.OK {
		return i, e
	}
	return 0, when(checked.rank() < len(x.Parts), api.ErrOpen)
}

// quotientError returns the error of numbers that are divided by a denominator.
func quotientError(den int, numbers []int) api.Errno {
	isOut := den < 1 || den > api.MaxJackDen || isBeyond(api.MaxJackNumber, numbers...)
	return firstOf(when(isOut, api.ErrRange), when(divisorOf(den, divisorOf(numbers...)) != 1, api.ErrForm))
}

// ResidualOf returns the sum of the squares that the pose for extensions leaves.
func ResidualOf(r api.JackRig, extensions []int) (api.Frac, api.Errno) {
	checked, e := rigOf(r)
	if e = firstOf(e, extensionsError(r, extensions)); e != api.OK {
		return api.Frac{}, e
	}
	l := lengthsOf(extensions)
	x, e := checked.poseFor(l)
	if e != api.OK {
		return api.Frac{}, e
	}
	// By the equations of the pose the differences have no share along extensions of poses, so the sum of their
	// squares is that of their products with the given extensions, which needs no squares of large numbers.
	differences := l.times(x.Den).minus(checked.lengths(parts(x.Parts)))
	return fraction(l.along(differences), x.Den), api.OK
}

// OddJacks returns the fewest jacks without which the extensions are those of a pose.
func OddJacks(r api.JackRig, extensions []int) ([]int, api.Errno) {
	checked, e := rigOf(r)
	if e = firstOf(e, extensionsError(r, extensions)); e != api.OK {
		return nil, e
	}
	for set := range setsOf(len(checked.Jacks)) {
		if _, agree := checked.system(lengthsOf(extensions), set); agree {
			return set, api.OK
		}
	}
	return nil, api.OK
}
