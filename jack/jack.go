// Package jack implements chapter 1: jacks, poses and paths. See shared/doc/01-jack.md.
package jack

import (
	"iter"
	"slices"

	"ductility/api"
)

// rig is a rig without errors.
type rig struct{ api.JackRig }

// rigOf returns a rig, or its error.
func rigOf(r api.JackRig) (rig, api.Errno) {
	if _, e := CheckRig(r); e != api.OK {
		return rig{}, e
	}
	return rig{r}, api.OK
}

// quantities yields the directions of all jacks and of all parts of poses, with the ranges in which they are permitted.
func (r rig) quantities() iter.Seq2[parts, api.Range] {
	return func(yield func(parts, api.Range) bool) {
		for _, j := range r.Jacks {
			if !yield(parts(j.Direction), j.Stroke) {
				return
			}
		}
		for i, x := range r.Limits {
			if !yield(unit(i), x) {
				return
			}
		}
	}
}

// lengths returns the extensions for a pose, which are also the forces by multipliers.
func (r rig) lengths(pose parts) lengths {
	var l lengths
	for i, j := range r.Jacks {
		l[i] = pose.along(parts(j.Direction))
	}
	return l
}

// sum returns the sum of all directions, each multiplied by the number of its jack.
func (r rig) sum(l lengths) parts {
	var sum parts
	for i, j := range r.Jacks {
		sum = sum.plus(parts(j.Direction).times(l[i]))
	}
	return sum
}

// CheckRig returns the error of a rig, with the index of its jack or of its part.
func CheckRig(r api.JackRig) (int, api.Errno) {
	if e := countError(len(r.Jacks), api.MaxJackJacks); e != api.OK {
		return 0, e
	}
	i, e := checkItems(r.Jacks, func(_ int, j api.JackJack) api.Errno {
		return firstOf(
			when(isBeyond(api.MaxJackPart, j.Direction[:]...), api.ErrRange),
			rangeError(api.MaxJackStroke, j.Stroke),
			when(j.Direction == api.JackWay{}, api.ErrZero))
	})
	if e != api.OK {
		return i, e
	}
	return checkBox(r.Limits)
}

// RankOf returns the rank of the directions of all jacks.
func RankOf(r api.JackRig) (int, api.Errno) {
	checked, e := rigOf(r)
	if e != api.OK {
		return 0, e
	}
	return checked.rank(), api.OK
}

// ExtensionsOf returns the extensions of all jacks for a pose.
func ExtensionsOf(r api.JackRig, pose api.JackWay) ([]int, api.Errno) {
	checked, e := rigOf(r)
	if e = firstOf(e, poseError(pose)); e != api.OK {
		return nil, e
	}
	return checked.lengths(parts(pose)).list(len(r.Jacks)), api.OK
}

// RangesIn returns for each jack the range of its extensions over a box of poses.
func RangesIn(r api.JackRig, box [6]api.Range) ([]api.Range, api.Errno) {
	checked, e := rigOf(r)
	_, boxError := checkBox(box)
	if e = firstOf(e, boxError); e != api.OK {
		return nil, e
	}
	var ranges []api.Range
	for _, j := range checked.Jacks {
		ranges = append(ranges, rangeIn(box, j.Direction))
	}
	return ranges, api.OK
}

// rangeIn returns the range of the extensions in a direction over a box of poses.
func rangeIn(box [6]api.Range, direction api.JackWay) api.Range {
	var sum api.Range
	for i, x := range box {
		lo, hi := direction[i]*x.Lo, direction[i]*x.Hi
		sum.Lo += min(lo, hi)
		sum.Hi += max(lo, hi)
	}
	return sum
}

// MarginOf returns the jack that is nearest to an end of its stroke, and how near it is.
func MarginOf(r api.JackRig, pose api.JackWay) (int, int, api.Errno) {
	checked, e := rigOf(r)
	if e = firstOf(e, poseError(pose)); e != api.OK {
		return 0, 0, e
	}
	jack, margin := 0, 0
	for i, j := range checked.Jacks {
		extension := parts(pose).along(parts(j.Direction))
		own := min(extension-j.Stroke.Lo, j.Stroke.Hi-extension)
		if i == 0 || own < margin {
			jack, margin = i, own
		}
	}
	return jack, margin, api.OK
}

// IsPermitted tells whether a pose is permitted.
func IsPermitted(r api.JackRig, pose api.JackWay) (bool, api.Errno) {
	checked, e := rigOf(r)
	if e = firstOf(e, poseError(pose)); e != api.OK {
		return false, e
	}
	return checked.permits(parts(pose)), api.OK
}

// permits tells whether all quantities of a pose lie in their ranges.
func (r rig) permits(pose parts) bool {
	for direction, permitted := range r.quantities() {
		n := pose.along(direction)
		if n < permitted.Lo || n > permitted.Hi {
			return false
		}
	}
	return true
}

// ScaleFor returns by which number a way may be multiplied at most.
func ScaleFor(r api.JackRig, way api.JackWay) (int, api.Errno) {
	checked, e := rigOf(r)
	isBad := isBeyond(api.MaxJackPose, way[:]...) || slices.Min(way[:]) < 0
	if e = firstOf(e, when(isBad, api.ErrRange)); e != api.OK {
		return 0, e
	}
	if !checked.permits(parts{}) {
		return 0, api.ErrNone
	}
	return checked.scale(parts(way)), api.OK
}

// scale returns the scale for a way, if the pose 0 is permitted.
func (r rig) scale(way parts) int {
	scale := api.MaxJackPose
	for direction, permitted := range r.quantities() {
		// The sizes reach furthest both ways: parts of poses may have either sign.
		if reach := way.along(direction.sizes()); reach > 0 {
			scale = min(scale, -permitted.Lo/reach, permitted.Hi/reach)
		}
	}
	return scale
}
