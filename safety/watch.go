package safety

import "ductility/api"

// watchError returns the error of a watch.
func watchError(w api.SafetyWatch) api.Errno {
	isOutside := isBeyond(api.MaxSafetyReading, w.Limit) || !areWithin(1, api.MaxSafetyWatch, w.Need)
	return when(isOutside, api.ErrRange)
}

// readingsError returns the error of readings.
func readingsError(readings []api.Range) api.Errno {
	if len(readings) > api.MaxSafetyWatch {
		return api.ErrLarge
	}
	_, e := checkItems(readings, func(_ int, x api.Range) api.Errno {
		return firstOf(
			when(isBeyond(api.MaxSafetyReading, x.Lo, x.Hi), api.ErrRange),
			when(x.Lo > x.Hi, api.ErrOrder))
	})
	return e
}

// TripOf returns the trip of a watch.
func TripOf(w api.SafetyWatch, readings []api.Range) (int, api.Errno) {
	if e := firstOf(watchError(w), readingsError(readings)); e != api.OK {
		return 0, e
	}
	surely, perhaps := 0, 0
	for _, x := range readings {
		if x.Lo > w.Limit {
			surely++
		}
		if x.Hi > w.Limit {
			perhaps++
		}
	}
	switch {
	case surely >= w.Need:
		return api.AnswerYes, api.OK
	case perhaps < w.Need:
		return api.AnswerNo, api.OK
	}
	return api.AnswerMaybe, api.OK
}
