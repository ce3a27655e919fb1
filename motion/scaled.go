package motion

import "ductility/api"

// ScaledBy returns samples scaled by a length and a time.
func ScaledBy(x api.MotionScaled, s api.MotionScale) (api.MotionScaled, api.Errno) {
	if e := firstOf(scaledError(x), scaleError(s)); e != api.OK {
		return api.MotionScaled{}, e
	}
	step := fraction(x.Step.Num*s.Time.Num, x.Step.Den*s.Time.Den)
	if isBeyond(api.MaxPart, step.Num, step.Den) {
		return api.MotionScaled{}, api.ErrLarge
	}
	var parts []int
	for _, part := range x.Parts {
		parts = append(parts, part*s.Length.Num*s.Time.Den*s.Time.Den)
	}
	scaled := lowest(x.Den*s.Length.Den*s.Time.Num*s.Time.Num, parts...)
	return api.MotionScaled{Step: step, Den: scaled.Den, Parts: scaled.Parts}, api.OK
}
