package safety

import (
	"iter"
	"slices"

	"ductility/api"
)

// limits is limits without errors.
type limits struct{ api.SafetyLimits }

// limitsFor returns limits, or the first error of them and of a motion.
func limitsFor(x api.SafetyLimits, s api.SafetyMotion) (limits, api.Errno) {
	checked := limits{x}
	if e := firstOf(CheckLimits(x), when(!checked.contain(s), api.ErrRange)); e != api.OK {
		return limits{}, e
	}
	return checked, api.OK
}

// contain tells whether the position, the speed and the push of a motion are within limits.
func (x limits) contain(s api.SafetyMotion) bool {
	return areWithin(x.Way.Lo, x.Way.Hi, s.Place) && !isBeyond(x.Speed, s.Speed) && !isBeyond(x.Push, s.Push)
}

// moved returns a motion after a push.
func moved(s api.SafetyMotion, push int) api.SafetyMotion {
	speed := s.Speed + push
	return api.SafetyMotion{Place: s.Place + speed, Speed: speed, Push: push}
}

// isStopped tells whether the speed and the last push are 0.
func isStopped(s api.SafetyMotion) bool { return s.Speed == 0 && s.Push == 0 }

// permit tells whether a push is permitted in a motion that is within limits.
func (x limits) permit(s api.SafetyMotion, push int) bool {
	// The size of the push comes first: no sum or difference of a greater one need be an int.
	return !isBeyond(x.Push, push) && !isBeyond(x.Jerk, push-s.Push) && x.contain(moved(s, push))
}

// next yields the permitted pushes, ascending, each with the motion after it.
func (x limits) next(s api.SafetyMotion) iter.Seq2[int, api.SafetyMotion] {
	return func(yield func(push int, next api.SafetyMotion) bool) {
		for push := -x.Push; push <= x.Push; push++ {
			if x.permit(s, push) && !yield(push, moved(s, push)) {
				return
			}
		}
	}
}

// stop returns the shortest stop from a motion, and whether there is one.
func (x limits) stop(s api.SafetyMotion) ([]int, bool) {
	// Motions that come after fewer pushes are known first, then those after the lexicographically first ones.
	known := []api.SafetyMotion{s}
	before := map[api.SafetyMotion]api.SafetyMotion{s: s}
	for i := 0; i < len(known); i++ {
		now := known[i]
		if isStopped(now) {
			return pushesTo(before, now), true
		}
		for _, next := range x.next(now) {
			if _, isKnown := before[next]; !isKnown {
				before[next] = now
				known = append(known, next)
			}
		}
	}
	return nil, false
}

// pushesTo returns the pushes that lead to a motion, by the motions before all known ones; the first one is before itself.
func pushesTo(before map[api.SafetyMotion]api.SafetyMotion, s api.SafetyMotion) []int {
	var pushes []int
	for before[s] != s {
		pushes = append(pushes, s.Push)
		s = before[s]
	}
	slices.Reverse(pushes)
	return pushes
}

// CheckLimits returns the error of limits.
func CheckLimits(x api.SafetyLimits) api.Errno {
	isInside := !isBeyond(api.MaxSafetyWay, x.Way.Lo, x.Way.Hi) &&
		areWithin(1, api.MaxSafetySpeed, x.Speed) &&
		areWithin(1, api.MaxSafetyPush, x.Push) &&
		areWithin(1, api.MaxSafetyJerk, x.Jerk)
	return firstOf(when(!isInside, api.ErrRange), when(x.Way.Lo > x.Way.Hi, api.ErrOrder))
}

// StopFrom returns the shortest stop from a motion.
func StopFrom(x api.SafetyLimits, s api.SafetyMotion) ([]int, api.Errno) {
	checked, e := limitsFor(x, s)
	if e != api.OK {
		return nil, e
	}
	pushes, isStop := checked.stop(s)
	return pushes, when(!isStop, api.ErrNone)
}

// CheckStop accepts a stop from a motion, and returns the position at which it ends.
func CheckStop(x api.SafetyLimits, s api.SafetyMotion, pushes []int) (int, api.Errno) {
	checked, e := limitsFor(x, s)
	if e = firstOf(e, when(len(pushes) > api.MaxSafetyTicks, api.ErrLarge)); e != api.OK {
		return 0, e
	}
	for _, push := range pushes {
		if !checked.permit(s, push) {
			return 0, api.ErrRefused
		}
		s = moved(s, push)
	}
	if !isStopped(s) {
		return 0, api.ErrOpen
	}
	return s.Place, api.OK
}

// CanStop tells whether a motion can stop.
func CanStop(x api.SafetyLimits, s api.SafetyMotion) (bool, api.Errno) {
	checked, e := limitsFor(x, s)
	if e != api.OK {
		return false, e
	}
	_, isStop := checked.stop(s)
	return isStop, api.OK
}

// PushesFrom returns all permitted pushes after which a motion can still stop.
func PushesFrom(x api.SafetyLimits, s api.SafetyMotion) ([]int, api.Errno) {
	checked, e := limitsFor(x, s)
	if e != api.OK {
		return nil, e
	}
	var pushes []int
	for push, next := range checked.next(s) {
		if _, isStop := checked.stop(next); isStop {
			pushes = append(pushes, push)
		}
	}
	return pushes, api.OK
}
