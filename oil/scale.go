package oil

import "ductility/api"

// whole is the percents that change nothing.
const whole = 100

// scaled returns a class scaled, or ErrLarge.
func scaled(class []api.Range, percent int) ([]api.Range, api.Errno) {
	var ranges []api.Range
	for _, x := range class {
		own := api.Range{
			Lo: down(api.Frac{Num: percent * x.Lo, Den: whole}),
			Hi: up(api.Frac{Num: percent * x.Hi, Den: whole}),
		}
		// Lo is at most Hi, so that it need not be looked at.
		if own.Hi > api.MaxOilFlow {
			return nil, api.ErrLarge
		}
		ranges = append(ranges, own)
	}
	return ranges, api.OK
}

// permitsScaled tells whether a class is permitted by a limit, scaled by percents.
func (p plant) permitsScaled(s api.OilState, class []api.Range, limit, percent int) bool {
	ranges, e := scaled(class, percent)
	return e == api.OK && p.permits(s, ranges, limit)
}

// Scaled returns a class scaled.
func Scaled(class []api.Range, percent int) ([]api.Range, api.Errno) {
	if e := firstOf(classError(class), when(!areWithin(0, api.MaxOilScale, percent), api.ErrRange)); e != api.OK {
		return nil, e
	}
	return scaled(class, percent)
}

// ScaleFor returns the scale for a class.
func ScaleFor(p api.OilPlant, s api.OilState, class []api.Range, limit int) (int, api.Errno) {
	checked, e := plantIn(p, s, classError(class), limitError(limit))
	if e != api.OK {
		return 0, e
	}
	if !checked.permitsScaled(s, class, limit, 0) {
		return 0, api.ErrNone
	}
	// None is skipped: a greater scale may be permitted where a smaller one is not, since the least demands grow, too.
	scale := 0
	for scale < api.MaxOilScale && checked.permitsScaled(s, class, limit, scale+1) {
		scale++
	}
	return scale, api.OK
}

// Bottles returns a plant with so many bottles.
func Bottles(p api.OilPlant, count int) (api.OilPlant, api.Errno) {
	checked, e := plantOf(p, when(!areWithin(1, api.MaxOilBottles, count), api.ErrRange))
	if e == api.OK {
		e = when(count*checked.capacity() > api.MaxOilVolume, api.ErrLarge)
	}
	if e != api.OK {
		return api.OilPlant{}, e
	}
	bottled := api.OilPlant{Pump: p.Pump, On: p.On, Off: p.Off}
	for _, x := range p.Points {
		bottled.Points = append(bottled.Points, api.OilPoint{Volume: count * x.Volume, Pressure: x.Pressure})
	}
	return bottled, api.OK
}

// FewestFor returns the fewest bottles with which a class is permitted by a limit, from full ones on.
func FewestFor(p api.OilPlant, class []api.Range, limit int) (int, api.Errno) {
	if _, e := plantOf(p, classError(class), limitError(limit)); e != api.OK {
		return 0, e
	}
	for others := range api.MaxOilBottles {
		count := others + 1
		bottled, e := Bottles(p, count)
		if e != api.OK {
			break
		}
		if checked, e := plantOf(bottled); e == api.OK && checked.permits(checked.full(), class, limit) {
			return count, api.OK
		}
	}
	return 0, api.ErrNone
}

// full returns the state of a full plant.
func (p plant) full() api.OilState {
	return api.OilState{Volume: p.capacity()}
}
