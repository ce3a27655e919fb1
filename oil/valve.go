package oil

import "ductility/api"

// valve is a valve without errors: the least and the greatest flows as lines over the drops.
type valve struct{ least, greatest line }

// valveOf returns a valve, or its error.
func valveOf(v []api.OilFlow) (valve, api.Errno) {
	if _, e := CheckValve(v); e != api.OK {
		return valve{}, e
	}
	return valve{
		least:    lineOf(v, func(x api.OilFlow) point { return point{x.Drop, x.Lo} }),
		greatest: lineOf(v, func(x api.OilFlow) point { return point{x.Drop, x.Hi} }),
	}, api.OK
}

// CheckValve returns the error of a valve, with the index of its point.
func CheckValve(v []api.OilFlow) (int, api.Errno) {
	if e := countError(len(v)); e != api.OK {
		return 0, e
	}
	return checkItems(v, func(i int, x api.OilFlow) api.Errno {
		isOutside := !areWithin(0, api.MaxOilDrop, x.Drop) || !areWithin(0, api.MaxOilFlow, x.Lo, x.Hi)
		return firstOf(when(isOutside, api.ErrRange), when(x.Lo > x.Hi || !widens(v, i), api.ErrOrder))
	})
}

// widens tells whether a point follows the one before, or begins at 0.
func widens(v []api.OilFlow, i int) bool {
	if i == 0 {
		return v[i].Drop == 0
	}
	return v[i].Drop > v[i-1].Drop && v[i].Lo >= v[i-1].Lo && v[i].Hi >= v[i-1].Hi
}

// FlowIn returns the flows for a range of drops.
func FlowIn(v []api.OilFlow, drop api.Range) (api.Range, api.Errno) {
	checked, e := valveOf(v)
	if e != api.OK {
		return api.Range{}, e
	}
	if e = rangeError(0, checked.least.last(), drop); e != api.OK {
		return api.Range{}, e
	}
	return api.Range{Lo: down(checked.least.at(drop.Lo)), Hi: up(checked.greatest.at(drop.Hi))}, api.OK
}

// DropFor returns the smallest whole drop with at least a flow.
func DropFor(v []api.OilFlow, flow int) (int, api.Errno) {
	checked, e := valveOf(v)
	if e = firstOf(e, demandError(flow)); e != api.OK {
		return 0, e
	}
	drop := checked.least.reaching(flow)
	if drop > checked.least.last() {
		return 0, api.ErrNone
	}
	return drop, api.OK
}

// squareOf returns the square of the resonance of a column with a mass.
func squareOf(c api.OilColumn, mass int) api.Frac {
	return fraction(4*c.Modulus*c.Area, c.Length*mass)
}

// SquareOf returns the square of the resonance of a column with a mass.
func SquareOf(c api.OilColumn, mass int) (api.Frac, api.Errno) {
	if e := firstOf(columnError(c), when(!areWithin(1, api.MaxOilColumn, mass), api.ErrRange)); e != api.OK {
		return api.Frac{}, e
	}
	return squareOf(c, mass), api.OK
}

// ClearOf returns whether a column is clear of a band for masses.
func ClearOf(c api.OilColumn, masses, band api.Range) (int, api.Errno) {
	e := firstOf(columnError(c), rangeError(1, api.MaxOilColumn, masses), rangeError(0, api.MaxOilSquare, band))
	if e != api.OK {
		return 0, e
	}
	// A greater mass has a smaller square.
	least, greatest := squareOf(c, masses.Hi), squareOf(c, masses.Lo)
	if isBelow(greatest, band.Lo) || isAbove(least, band.Hi) {
		return api.AnswerYes, api.OK
	}
	if isBelow(least, band.Lo) || isAbove(greatest, band.Hi) {
		return api.AnswerMaybe, api.OK
	}
	return api.AnswerNo, api.OK
}
