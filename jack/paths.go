package jack

import (
	"iter"

	"ductility/api"
)

// poseIn returns the pose of a piece at a time.
func poseIn(x api.JackPiece, t int) parts {
	return parts(x.From).plus(parts(x.Speed).times(t)).plus(parts(x.Half).times(t * t))
}

// speedIn returns the speed of a piece at a time.
func speedIn(x api.JackPiece, t int) parts {
	return parts(x.Speed).plus(parts(x.Half).times(2 * t))
}

// areJoined tells whether a piece begins as the one before ends.
func areJoined(before, x api.JackPiece) bool {
	return parts(x.From) == poseIn(before, before.Ticks) && parts(x.Speed) == speedIn(before, before.Ticks)
}

// pieceError returns the error of a piece alone.
func pieceError(x api.JackPiece) api.Errno {
	isFast := isBeyond(api.MaxJackSpeed, x.Speed[:]...) || isBeyond(api.MaxJackSpeed, x.Half[:]...)
	return firstOf(poseError(x.From), when(isFast || x.Ticks < 1 || x.Ticks > api.MaxJackTicks, api.ErrRange))
}

// CheckPieces returns the error of pieces, with the index of its piece.
func CheckPieces(l []api.JackPiece) (int, api.Errno) {
	if e := countError(len(l), api.MaxJackPieces); e != api.OK {
		return 0, e
	}
	return checkItems(l, func(i int, x api.JackPiece) api.Errno {
		if e := pieceError(x); e != api.OK || i == 0 {
			return e
		}
		return when(!areJoined(l[i-1], x), api.ErrBreak)
	})
}

// PoseAt returns the pose on a path after so many ticks.
func PoseAt(l []api.JackPiece, tick int) (api.JackWay, api.Errno) {
	if _, e := CheckPieces(l); e != api.OK {
		return api.JackWay{}, e
	}
	if tick < 0 {
		return api.JackWay{}, api.ErrMissing
	}
	for _, x := range l {
		if tick <= x.Ticks {
			return api.JackWay(poseIn(x, tick)), api.OK
		}
		tick -= x.Ticks
	}
	return api.JackWay{}, api.ErrMissing
}

// course is how one quantity goes in a piece: at the time t it is start plus t times speed plus t times t times half.
type course struct{ start, speed, half int }

// courseOf returns the course in a direction.
func courseOf(x api.JackPiece, direction parts) course {
	return course{parts(x.From).along(direction), parts(x.Speed).along(direction), parts(x.Half).along(direction)}
}

// turn returns the value at which a course turns back before a tick and after the beginning, and whether it does.
func (c course) turn(ticks int) (api.Frac, bool) {
	end := c.speed + 2*c.half*ticks
	if turns := c.speed < 0 && end > 0 || c.speed > 0 && end < 0; !turns {
		return api.Frac{}, false
	}
	return fraction(4*c.half*c.start-c.speed*c.speed, 4*c.half), true
}

// span returns the smallest and the greatest value of a course.
func (c course) span(ticks int) api.Span {
	end := c.start + ticks*c.speed + ticks*ticks*c.half
	s := api.Span{Lo: whole(min(c.start, end)), Hi: whole(max(c.start, end))}
	if turn, turns := c.turn(ticks); turns && isLess(turn, s.Lo) {
		s.Lo = turn
	} else if turns && isLess(s.Hi, turn) {
		s.Hi = turn
	}
	return s
}

// spans yields the spans of all quantities over a piece, with the ranges in which they are permitted.
func (r rig) spans(x api.JackPiece) iter.Seq2[api.Span, api.Range] {
	return func(yield func(api.Span, api.Range) bool) {
		for direction, permitted := range r.quantities() {
			if !yield(courseOf(x, direction).span(x.Ticks), permitted) {
				return
			}
		}
	}
}

// SpansOf returns the spans of all quantities over a piece.
func SpansOf(r api.JackRig, x api.JackPiece) ([]api.Span, api.Errno) {
	checked, e := rigOf(r)
	if e = firstOf(e, pieceError(x)); e != api.OK {
		return nil, e
	}
	var spans []api.Span
	for s := range checked.spans(x) {
		spans = append(spans, s)
	}
	return spans, api.OK
}

// FirstOut returns the first piece in which a quantity is out, and this quantity.
func FirstOut(r api.JackRig, l []api.JackPiece) ([2]int, api.Errno) {
	checked, e := rigOf(r)
	_, pieces := CheckPieces(l)
	if e = firstOf(e, pieces); e != api.OK {
		return [2]int{}, e
	}
	for i, x := range l {
		if quantity, isOut := checked.firstOut(x); isOut {
			return [2]int{i, quantity}, api.OK
		}
	}
	return [2]int{}, api.ErrNone
}

// firstOut returns the first quantity that is out in a piece, and whether there is one.
func (r rig) firstOut(x api.JackPiece) (int, bool) {
	quantity := 0
	for s, permitted := range r.spans(x) {
		if isLess(s.Lo, whole(permitted.Lo)) || isLess(whole(permitted.Hi), s.Hi) {
			return quantity, true
		}
		quantity++
	}
	return 0, false
}
