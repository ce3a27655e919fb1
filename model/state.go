package model

import (
	"iter"
	"slices"

	"ductility/api"
)

// noStorey is the storey that collapses if none does.
const noStorey = -1

// moment is a frame in a state, both without errors.
type moment struct {
	frame
	api.ModelState
}

// momentOf returns a frame in a state, or the first error of both and of further arguments.
func momentOf(f api.ModelFrame, s api.ModelState, further ...api.Errno) (moment, api.Errno) {
	_, e := CheckState(f, s)
	if e = firstOf(e, firstOf(further...)); e != api.OK {
		return moment{}, e
	}
	return moment{frame{f}, s}, api.OK
}

// begin returns the frame in its state at the beginning.
func (f frame) begin() moment {
	count := len(f.Floors)
	s := api.ModelState{Now: make([]int, count), Before: make([]int, count)}
	for _, floor := range f.Floors {
		s.Holds = append(s.Holds, begin(floor.Spring).ModelHold)
	}
	return moment{f, s}
}

// driftsOf yields the drift of each storey, with its index.
func driftsOf(displacements []int) iter.Seq2[int, int] {
	return func(yield func(int, int) bool) {
		below := 0
		for i, displacement := range displacements {
			if !yield(i, displacement-below) {
				return
			}
			below = displacement
		}
	}
}

// spring returns the spring of a storey.
func (m moment) spring(storey int) spring {
	return spring{m.Floors[storey].Spring, m.Holds[storey]}
}

// force returns the force of the spring of a storey, 0 above the last one.
func (m moment) force(storey int) int {
	if storey == len(m.Floors) {
		return 0
	}
	return m.spring(storey).force()
}

// after returns the frame after a step, or the storey that collapses in it.
func (m moment) after(ground int) (moment, int) {
	s := api.ModelState{Before: slices.Clone(m.Now)}
	for x := range m.swings(ground) {
		s.Now = append(s.Now, x.next)
	}
	for i, drift := range driftsOf(s.Now) {
		if isBeyond(m.Floors[i].Limit, drift) {
			return moment{}, i
		}
		s.Holds = append(s.Holds, m.spring(i).movedTo(drift).ModelHold)
	}
	return moment{m.frame, s}, noStorey
}

// BeginOf returns the state of a frame at the beginning.
func BeginOf(f api.ModelFrame) (api.ModelState, api.Errno) {
	checked, e := frameOf(f)
	if e != api.OK {
		return api.ModelState{}, e
	}
	return checked.begin().ModelState, api.OK
}

// CheckState returns the error of a frame and its state, with the index of the floor.
func CheckState(f api.ModelFrame, s api.ModelState) (int, api.Errno) {
	if i, e := CheckFrame(f); e != api.OK {
		return i, e
	}
	count := len(f.Floors)
	if len(s.Now) != count || len(s.Before) != count || len(s.Holds) != count {
		return 0, api.ErrShape
	}
	for i, drift := range driftsOf(s.Now) {
		floor, hold := f.Floors[i], s.Holds[i]
		_, holdError := CheckHold(floor.Spring, hold)
		e := firstOf(
			limitError(api.MaxModelPlace, s.Now[i], s.Before[i]),
			holdError,
			when(hold.At != drift, api.ErrClash),
			when(isBeyond(floor.Limit, drift), api.ErrBreak))
		if e != api.OK {
			return i, e
		}
	}
	return 0, api.OK
}

// StepOf returns the state of a frame after a step.
func StepOf(f api.ModelFrame, s api.ModelState, ground int) (api.ModelState, api.Errno) {
	m, e := momentOf(f, s, groundError(ground))
	if e != api.OK {
		return api.ModelState{}, e
	}
	after, collapsed := m.after(ground)
	return after.ModelState, when(collapsed != noStorey, api.ErrBreak)
}

// RunOf returns all states of a frame in a motion, and the storey that collapses.
func RunOf(f api.ModelFrame, motion []int) ([]api.ModelState, int, api.Errno) {
	checked, e := frameOf(f, motionError(motion))
	if e != api.OK {
		return nil, 0, e
	}
	now := checked.begin()
	states := []api.ModelState{now.ModelState}
	for _, ground := range motion {
		after, collapsed := now.after(ground)
		if collapsed != noStorey {
			return states, collapsed, api.OK
		}
		now = after
		states = append(states, now.ModelState)
	}
	return states, noStorey, api.OK
}

// PeaksOf returns, for each storey, the first drift of greatest size in the states of a frame in a motion.
func PeaksOf(f api.ModelFrame, motion []int) ([]int, api.Errno) {
	states, _, e := RunOf(f, motion)
	if e != api.OK {
		return nil, e
	}
	peaks := make([]int, len(f.Floors))
	for _, s := range states {
		for i, drift := range driftsOf(s.Now) {
			if sizeOf(drift) > sizeOf(peaks[i]) {
				peaks[i] = drift
			}
		}
	}
	return peaks, api.OK
}
