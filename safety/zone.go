package safety

import (
	"iter"
	"slices"

	"ductility/api"
)

// place is a position of a path.
type place [2]int

// line is two positions, and all between them.
type line struct{ from, to place }

// linesOf yields the lines of a path. A line of its first position alone comes first: a path of one position has no other.
func linesOf(path [][2]int) iter.Seq[line] {
	return func(yield func(l line) bool) {
		for i, at := range path {
			before := path[max(i-1, 0)]
			if !yield(line{before, at}) {
				return
			}
		}
	}
}

// sideOf returns on which side of a line a position is: a number above 0, one below 0, or 0 if both ends and it are on one straight line.
func (l line) sideOf(at place) int {
	return (l.to[0]-l.from[0])*(at[1]-l.from[1]) - (l.to[1]-l.from[1])*(at[0]-l.from[0])
}

// isBeside tells whether both ends of a line are on the same side of a range of a coordinate, outside of it.
func (l line) isBeside(x api.Range, coordinate int) bool {
	return max(l.from[coordinate], l.to[coordinate]) < x.Lo || min(l.from[coordinate], l.to[coordinate]) > x.Hi
}

// cornersOf returns the corners of a zone.
func cornersOf(z api.SafetyZone) [4]place {
	return [4]place{{z.X.Lo, z.Y.Lo}, {z.X.Lo, z.Y.Hi}, {z.X.Hi, z.Y.Lo}, {z.X.Hi, z.Y.Hi}}
}

// touches tells whether a line and a zone have a common point.
func (l line) touches(z api.SafetyZone) bool {
	if l.isBeside(z.X, 0) || l.isBeside(z.Y, 1) {
		return false
	}
	var sides [4]int
	for i, corner := range cornersOf(z) {
		sides[i] = l.sideOf(corner)
	}
	// A line that is not beside a zone misses it only if it passes a corner: then all corners are on one side of it.
	return slices.Min(sides[:]) <= 0 && slices.Max(sides[:]) >= 0
}

// zonesError returns the error of zones.
func zonesError(zones []api.SafetyZone) api.Errno {
	if len(zones) > api.MaxSafetyZones {
		return api.ErrLarge
	}
	_, e := checkItems(zones, func(_ int, z api.SafetyZone) api.Errno {
		return firstOf(
			when(isBeyond(api.MaxSafetyPlace, z.X.Lo, z.X.Hi, z.Y.Lo, z.Y.Hi), api.ErrRange),
			when(z.X.Lo > z.X.Hi || z.Y.Lo > z.Y.Hi, api.ErrOrder))
	})
	return e
}

// pathError returns the error of a path, but for the zones that it touches.
func pathError(path [][2]int) api.Errno {
	if len(path) > api.MaxSafetyPath {
		return api.ErrLarge
	}
	_, e := checkItems(path, func(_ int, at [2]int) api.Errno {
		return when(isBeyond(api.MaxSafetyPlace, at[:]...), api.ErrRange)
	})
	return e
}

// ClearOf accepts a path that touches no zone, and returns the number of its positions.
func ClearOf(zones []api.SafetyZone, path [][2]int) (int, api.Errno) {
	if e := firstOf(zonesError(zones), pathError(path)); e != api.OK {
		return 0, e
	}
	for l := range linesOf(path) {
		if slices.ContainsFunc(zones, l.touches) {
			return 0, api.ErrClash
		}
	}
	return len(path), api.OK
}
