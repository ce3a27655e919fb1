package jack

import "ductility/api"

// firstOf returns the first of several errors, and OK if there is none.
func firstOf(errors ...api.Errno) api.Errno {
	for _, e := range errors {
		if e != api.OK {
			return e
		}
	}
	return api.OK
}

// when returns an error if it applies, otherwise OK.
func when(applies bool, e api.Errno) api.Errno {
	if applies {
		return e
	}
	return api.OK
}

// checkItems returns the first error of the items, and the index of its item.
func checkItems[T any](items []T, errorOf func(i int, item T) api.Errno) (int, api.Errno) {
	for i, item := range items {
		if e := errorOf(i, item); e != api.OK {
			return i, e
		}
	}
	return 0, api.OK
}

// isBeyond tells whether one of the numbers is greater in size than a limit.
func isBeyond(limit int, numbers ...int) bool {
	for _, n := range numbers {
		// The size of the smallest int is no int: its negative would not do here.
		if n < -limit || n > limit {
			return true
		}
	}
	return false
}

// countError returns the error of a list that has no items, or too many.
func countError(count, most int) api.Errno {
	return firstOf(when(count == 0, api.ErrShape), when(count > most, api.ErrLarge))
}

// rangeError returns the error of a range whose ends have a limit.
func rangeError(limit int, x api.Range) api.Errno {
	return firstOf(when(isBeyond(limit, x.Lo, x.Hi), api.ErrRange), when(x.Lo > x.Hi, api.ErrOrder))
}

// checkBox returns the first error of the ranges of a box, and its index.
func checkBox(box [6]api.Range) (int, api.Errno) {
	return checkItems(box[:], func(_ int, x api.Range) api.Errno {
		return rangeError(api.MaxJackPose, x)
	})
}

// poseError returns the error of a pose.
func poseError(pose api.JackWay) api.Errno {
	return when(isBeyond(api.MaxJackPose, pose[:]...), api.ErrRange)
}

// wrenchError returns the error of a wrench.
func wrenchError(wrench api.JackWay) api.Errno {
	return when(isBeyond(api.MaxJackForce, wrench[:]...), api.ErrRange)
}

// extensionsError returns the error of extensions for a rig.
func extensionsError(r api.JackRig, extensions []int) api.Errno {
	return firstOf(when(len(extensions) != len(r.Jacks), api.ErrShape), when(isBeyond(api.MaxJackStroke, extensions...), api.ErrRange))
}
