package oil_test

import (
	"math"
	"math/big"
	"math/rand/v2"
	"slices"
	"testing"

	"ductility/api"
	"ductility/oil"
)

// exampleValve returns the valve of the examples.
func exampleValve() []api.OilFlow {
	return []api.OilFlow{{Drop: 0, Lo: 0, Hi: 0}, {Drop: 10, Lo: 8, Hi: 10}, {Drop: 30, Lo: 14, Hi: 20}}
}

// exampleColumn returns the column of the examples.
func exampleColumn() api.OilColumn { return api.OilColumn{Modulus: 100, Area: 3, Length: 4} }

// P3.6
func TestValveErrors(t *testing.T) {
	for _, x := range []struct {
		name   string
		change func(v []api.OilFlow) []api.OilFlow
		index  int
		want   api.Errno
	}{
		{"no points", func(v []api.OilFlow) []api.OilFlow { return nil }, 0, api.ErrShape},
		{"one point", func(v []api.OilFlow) []api.OilFlow { return []api.OilFlow{{Drop: -1}} }, 0, api.ErrShape},
		{"nine points", func(v []api.OilFlow) []api.OilFlow { return slices.Repeat([]api.OilFlow{{Drop: -1}}, 9) }, 0, api.ErrLarge},
		{"drop below 0", func(v []api.OilFlow) []api.OilFlow { v[0].Drop = -1; v[1].Drop = 1001; return v }, 0, api.ErrRange},
		{"drop above", func(v []api.OilFlow) []api.OilFlow { v[2] = api.OilFlow{Drop: 1001, Lo: 3, Hi: 2}; return v }, 2, api.ErrRange},
		{"greatest drop", func(v []api.OilFlow) []api.OilFlow { v[1].Drop = math.MaxInt; return v }, 1, api.ErrRange},
		{"least flow below 0", func(v []api.OilFlow) []api.OilFlow { v[0].Lo = -1; v[0].Drop = 1; return v }, 0, api.ErrRange},
		{"least flow above", func(v []api.OilFlow) []api.OilFlow { v[1].Lo = 51; return v }, 1, api.ErrRange},
		{"greatest flow below 0", func(v []api.OilFlow) []api.OilFlow { v[1].Hi = -1; return v }, 1, api.ErrRange},
		{"greatest flow above", func(v []api.OilFlow) []api.OilFlow { v[2].Hi = 51; return v }, 2, api.ErrRange},
		{"smallest flow", func(v []api.OilFlow) []api.OilFlow { v[1].Lo = math.MinInt; return v }, 1, api.ErrRange},
		{"more at least than at most", func(v []api.OilFlow) []api.OilFlow { v[1].Lo = 11; v[2].Lo = 21; return v }, 1, api.ErrOrder},
		{"more at least in the first point", func(v []api.OilFlow) []api.OilFlow { v[0].Lo = 1; v[1].Drop = -1; return v }, 0, api.ErrOrder},
		{"first drop not 0", func(v []api.OilFlow) []api.OilFlow { v[0].Drop = 1; v[1].Lo = 51; return v }, 0, api.ErrOrder},
		{"the same drop", func(v []api.OilFlow) []api.OilFlow { v[2].Drop = 10; return v }, 2, api.ErrOrder},
		{"a smaller drop", func(v []api.OilFlow) []api.OilFlow { v[2].Drop = 9; return v }, 2, api.ErrOrder},
		{"the least flow falls", func(v []api.OilFlow) []api.OilFlow { v[2].Lo = 7; return v }, 2, api.ErrOrder},
		{"the greatest flow falls", func(v []api.OilFlow) []api.OilFlow { v[2] = api.OilFlow{Drop: 30, Lo: 8, Hi: 9}; return v }, 2, api.ErrOrder},
	} {
		v := x.change(exampleValve())
		if i, e := oil.CheckValve(v); i != x.index || e != x.want {
			t.Error(x.name, i, e)
		}
		if flows, e := oil.FlowIn(v, api.Range{Lo: -1, Hi: -2}); flows != (api.Range{}) || e != x.want {
			t.Error(x.name, flows, e)
		}
		if drop, e := oil.DropFor(v, -1); drop != 0 || e != x.want {
			t.Error(x.name, drop, e)
		}
	}
	flat := []api.OilFlow{{Drop: 0, Lo: 50, Hi: 50}, {Drop: 1, Lo: 50, Hi: 50}, {Drop: 1000, Lo: 50, Hi: 50}}
	for _, v := range [][]api.OilFlow{exampleValve(), flat, {{}, {Drop: 1}}} {
		if i, e := oil.CheckValve(v); i != 0 || e != api.OK {
			t.Error(v, i, e)
		}
	}
	var eight []api.OilFlow
	for i := range api.MaxOilPoints {
		eight = append(eight, api.OilFlow{Drop: i, Lo: i, Hi: i})
	}
	if i, e := oil.CheckValve(eight); i != 0 || e != api.OK {
		t.Error(i, e)
	}
}

// P3.6, example 6
func TestFlows(t *testing.T) {
	for _, x := range []struct {
		name       string
		drop, want api.Range
		e          api.Errno
	}{
		{"example", api.Range{Lo: 5, Hi: 20}, api.Range{Lo: 4, Hi: 15}, api.OK},
		{"rounded both ways", api.Range{Lo: 1, Hi: 11}, api.Range{Lo: 0, Hi: 11}, api.OK},
		{"at 0", api.Range{}, api.Range{}, api.OK},
		{"at a point", api.Range{Lo: 10, Hi: 10}, api.Range{Lo: 8, Hi: 10}, api.OK},
		{"at the last point", api.Range{Lo: 30, Hi: 30}, api.Range{Lo: 14, Hi: 20}, api.OK},
		{"all", api.Range{Lo: 0, Hi: 30}, api.Range{Lo: 0, Hi: 20}, api.OK},
		{"a single drop", api.Range{Lo: 17, Hi: 17}, api.Range{Lo: 10, Hi: 14}, api.OK},
		{"below 0", api.Range{Lo: -1, Hi: 5}, api.Range{}, api.ErrRange},
		{"above", api.Range{Lo: 5, Hi: 31}, api.Range{}, api.ErrRange},
		{"both outside", api.Range{Lo: math.MaxInt, Hi: math.MinInt}, api.Range{}, api.ErrRange},
		{"the upper end below 0", api.Range{Lo: 3, Hi: -1}, api.Range{}, api.ErrRange},
		{"the lower end above", api.Range{Lo: 31, Hi: 30}, api.Range{}, api.ErrRange},
		{"order", api.Range{Lo: 6, Hi: 5}, api.Range{}, api.ErrOrder},
	} {
		if flows, e := oil.FlowIn(exampleValve(), x.drop); flows != x.want || e != x.e {
			t.Error(x.name, flows, e)
		}
	}
}

// P3.6, example 6
func TestDrops(t *testing.T) {
	steps := []api.OilFlow{{Drop: 0, Lo: 2, Hi: 3}, {Drop: 5, Lo: 2, Hi: 9}, {Drop: 1000, Lo: 50, Hi: 50}}
	for _, x := range []struct {
		name       string
		v          []api.OilFlow
		flow, want int
		e          api.Errno
	}{
		{"example", exampleValve(), 10, 17, api.OK},
		{"nothing", exampleValve(), 0, 0, api.OK},
		{"exactly at a point", exampleValve(), 8, 10, api.OK},
		{"just above a point", exampleValve(), 9, 14, api.OK},
		{"rounded up", exampleValve(), 1, 2, api.OK},
		{"at the last point", exampleValve(), 14, 30, api.OK},
		{"not at the last point", exampleValve(), 15, 0, api.ErrNone},
		{"the greatest one", exampleValve(), 50, 0, api.ErrNone},
		{"below 0", exampleValve(), -1, 0, api.ErrRange},
		{"above", exampleValve(), 51, 0, api.ErrRange},
		{"smallest", exampleValve(), math.MinInt, 0, api.ErrRange},
		{"where it begins flat", steps, 2, 0, api.OK},
		{"after what is flat", steps, 3, 26, api.OK},
		{"at the end", steps, 50, 1000, api.OK},
	} {
		if drop, e := oil.DropFor(x.v, x.flow); drop != x.want || e != x.e {
			t.Error(x.name, drop, e)
		}
	}
}

// someValve returns a valve.
func someValve(random *rand.Rand) []api.OilFlow {
	v := []api.OilFlow{{Lo: random.IntN(3)}}
	v[0].Hi = v[0].Lo + random.IntN(3)
	for range 1 + random.IntN(7) {
		x := v[len(v)-1]
		x.Drop += 1 + random.IntN(30)
		x.Lo += random.IntN(4)
		x.Hi = max(x.Hi, x.Lo) + random.IntN(4)
		v = append(v, x)
	}
	return v
}

// flowByHand returns the flow at a drop, of one of the lines.
func flowByHand(v []api.OilFlow, drop int, of func(x api.OilFlow) int) *big.Rat {
	i := slices.IndexFunc(v, func(x api.OilFlow) bool { return x.Drop >= drop })
	if v[i].Drop == drop {
		return big.NewRat(int64(of(v[i])), 1)
	}
	a, b := v[i-1], v[i]
	rise := big.NewRat(int64((of(b)-of(a))*(drop-a.Drop)), int64(b.Drop-a.Drop))
	return rise.Add(rise, big.NewRat(int64(of(a)), 1))
}

// isRounded tells whether a whole number is a quotient that is rounded down, or up.
func isRounded(n int, q *big.Rat, isUp bool) bool {
	off := new(big.Rat).Sub(q, big.NewRat(int64(n), 1))
	if isUp {
		off.Neg(off)
	}
	return off.Sign() >= 0 && off.Cmp(big.NewRat(1, 1)) < 0
}

// P3.13
func TestValvesOpen(t *testing.T) {
	random := fixedRandom()
	for range 400 {
		v := someValve(random)
		last := v[len(v)-1]
		wide := someRange(random, 0, last.Drop)
		narrow := someRange(random, wide.Lo, wide.Hi)
		flows, e := oil.FlowIn(v, wide)
		inner, innerError := oil.FlowIn(v, narrow)
		if e != api.OK || innerError != api.OK || inner.Lo < flows.Lo || inner.Hi > flows.Hi || inner.Lo > inner.Hi {
			t.Fatal(v, wide, narrow, flows, inner, e, innerError)
		}
		if !isRounded(flows.Lo, flowByHand(v, wide.Lo, func(x api.OilFlow) int { return x.Lo }), false) ||
			!isRounded(flows.Hi, flowByHand(v, wide.Hi, func(x api.OilFlow) int { return x.Hi }), true) {
			t.Fatal(v, wide, flows)
		}
		flow := random.IntN(last.Lo + 2)
		drop, e := oil.DropFor(v, flow)
		if flow > last.Lo {
			if drop != 0 || e != api.ErrNone {
				t.Fatal(v, flow, drop, e)
			}
			continue
		}
		at, atError := oil.FlowIn(v, api.Range{Lo: drop, Hi: drop})
		if e != api.OK || atError != api.OK || at.Lo < flow {
			t.Fatal(v, flow, drop, e, at)
		}
		if before, _ := oil.FlowIn(v, api.Range{Lo: max(0, drop-1), Hi: drop}); drop > 0 && before.Lo >= flow {
			t.Fatal(v, flow, drop, before)
		}
	}
}

// P3.6, example 7
func TestSquares(t *testing.T) {
	c := exampleColumn()
	greatest := api.OilColumn{Modulus: 10000, Area: 10000, Length: 1}
	for _, x := range []struct {
		name string
		c    api.OilColumn
		mass int
		want api.Frac
		e    api.Errno
	}{
		{"example", c, 5, api.Frac{Num: 60, Den: 1}, api.OK},
		{"in lowest terms", c, 8, api.Frac{Num: 75, Den: 2}, api.OK},
		{"greatest", greatest, 1, api.Frac{Num: 400000000, Den: 1}, api.OK},
		{"smallest", api.OilColumn{Modulus: 1, Area: 1, Length: 10000}, 10000, api.Frac{Num: 1, Den: 25000000}, api.OK},
		{"odd", api.OilColumn{Modulus: 1, Area: 1, Length: 9999}, 9999, api.Frac{Num: 4, Den: 99980001}, api.OK},
		{"modulus 0", api.OilColumn{Modulus: 0, Area: 3, Length: 4}, 5, api.Frac{}, api.ErrRange},
		{"modulus above", api.OilColumn{Modulus: 10001, Area: 3, Length: 4}, 5, api.Frac{}, api.ErrRange},
		{"area 0", api.OilColumn{Modulus: 100, Length: 4}, 5, api.Frac{}, api.ErrRange},
		{"area above", api.OilColumn{Modulus: 100, Area: 10001, Length: 4}, 5, api.Frac{}, api.ErrRange},
		{"length 0", api.OilColumn{Modulus: 100, Area: 3}, 5, api.Frac{}, api.ErrRange},
		{"length above", api.OilColumn{Modulus: 100, Area: 3, Length: 10001}, 5, api.Frac{}, api.ErrRange},
		{"greatest of all", api.OilColumn{Modulus: math.MaxInt, Area: math.MinInt, Length: math.MaxInt}, math.MinInt, api.Frac{}, api.ErrRange},
		{"mass 0", c, 0, api.Frac{}, api.ErrRange},
		{"mass below 0", c, -5, api.Frac{}, api.ErrRange},
		{"mass above", c, 10001, api.Frac{}, api.ErrRange},
	} {
		if f, e := oil.SquareOf(x.c, x.mass); f != x.want || e != x.e {
			t.Error(x.name, f, e)
		}
	}
}

// P3.6, example 7
func TestClearColumns(t *testing.T) {
	masses := api.Range{Lo: 5, Hi: 10}
	for _, x := range []struct {
		name         string
		masses, band api.Range
		want         int
	}{
		{"example, clear", masses, api.Range{Lo: 20, Hi: 25}, api.AnswerYes},
		{"example, maybe", masses, api.Range{Lo: 40, Hi: 45}, api.AnswerMaybe},
		{"example, not clear", masses, api.Range{Lo: 10, Hi: 70}, api.AnswerNo},
		{"just below", masses, api.Range{Lo: 0, Hi: 29}, api.AnswerYes},
		{"at the lower end", masses, api.Range{Lo: 0, Hi: 30}, api.AnswerMaybe},
		{"just above", masses, api.Range{Lo: 61, Hi: 1000000000}, api.AnswerYes},
		{"at the upper end", masses, api.Range{Lo: 60, Hi: 1000000000}, api.AnswerMaybe},
		{"exactly", masses, api.Range{Lo: 30, Hi: 60}, api.AnswerNo},
		{"not the smallest square", masses, api.Range{Lo: 31, Hi: 60}, api.AnswerMaybe},
		{"not the greatest square", masses, api.Range{Lo: 30, Hi: 59}, api.AnswerMaybe},
		{"between the squares of whole masses", masses, api.Range{Lo: 51, Hi: 55}, api.AnswerMaybe},
		{"one mass in the band", api.Range{Lo: 8, Hi: 8}, api.Range{Lo: 37, Hi: 38}, api.AnswerNo},
		{"one mass beside the band", api.Range{Lo: 8, Hi: 8}, api.Range{Lo: 38, Hi: 38}, api.AnswerYes},
		{"one mass at the band", api.Range{Lo: 5, Hi: 5}, api.Range{Lo: 60, Hi: 60}, api.AnswerNo},
		{"all masses", api.Range{Lo: 1, Hi: 10000}, api.Range{Lo: 0, Hi: 1000000000}, api.AnswerNo},
		{"a fraction above the band", api.Range{Lo: 1, Hi: 10000}, api.Range{Lo: 0, Hi: 0}, api.AnswerYes},
	} {
		if answer, e := oil.ClearOf(exampleColumn(), x.masses, x.band); answer != x.want || e != api.OK {
			t.Error(x.name, answer, e)
		}
	}
}

// P3.6
func TestClearErrors(t *testing.T) {
	c, some, bad := exampleColumn(), api.Range{Lo: 5, Hi: 10}, api.Range{Lo: -1, Hi: -2}
	for _, x := range []struct {
		name         string
		c            api.OilColumn
		masses, band api.Range
		want         api.Errno
	}{
		{"column", api.OilColumn{Modulus: 100, Area: 3}, api.Range{Lo: 3, Hi: 2}, bad, api.ErrRange},
		{"mass 0", c, api.Range{Lo: 0, Hi: 5}, api.Range{Lo: 3, Hi: 2}, api.ErrRange},
		{"mass above", c, api.Range{Lo: 1, Hi: 10001}, bad, api.ErrRange},
		{"masses outside", c, api.Range{Lo: math.MaxInt, Hi: math.MinInt}, some, api.ErrRange},
		{"range of masses before their order", c, api.Range{Lo: 1, Hi: 0}, some, api.ErrRange},
		{"order of masses", c, api.Range{Lo: 6, Hi: 5}, bad, api.ErrOrder},
		{"band below 0", c, some, api.Range{Lo: -1, Hi: 5}, api.ErrRange},
		{"band above", c, some, api.Range{Lo: 0, Hi: 1000000001}, api.ErrRange},
		{"band outside", c, some, api.Range{Lo: math.MaxInt, Hi: math.MinInt}, api.ErrRange},
		{"range of the band before its order", c, some, bad, api.ErrRange},
		{"order of the band", c, some, api.Range{Lo: 41, Hi: 40}, api.ErrOrder},
	} {
		if answer, e := oil.ClearOf(x.c, x.masses, x.band); answer != 0 || e != x.want {
			t.Error(x.name, answer, e)
		}
	}
}

// P3.6: the answer is that of squares at many masses, whole ones or not.
func TestClearOfManyMasses(t *testing.T) {
	random := fixedRandom()
	for range 500 {
		c := api.OilColumn{Modulus: 1 + random.IntN(20), Area: 1 + random.IntN(20), Length: 1 + random.IntN(9)}
		masses, band := someRange(random, 1, 12), someRange(random, 0, 60)
		answer, e := oil.ClearOf(c, masses, band)
		if e != api.OK {
			t.Fatal(c, masses, band, e)
		}
		const parts = 50
		some, all := false, true
		for n := masses.Lo * parts; n <= masses.Hi*parts; n++ {
			square := big.NewRat(int64(4*c.Modulus*c.Area*parts), int64(c.Length*n))
			isIn := square.Cmp(big.NewRat(int64(band.Lo), 1)) >= 0 && square.Cmp(big.NewRat(int64(band.Hi), 1)) <= 0
			some, all = some || isIn, all && isIn
		}
		if all != (answer == api.AnswerNo) || some && answer == api.AnswerYes {
			t.Fatal(c, masses, band, answer, some, all)
		}
		least, _ := oil.SquareOf(c, masses.Hi)
		greatest, _ := oil.SquareOf(c, masses.Lo)
		isApart := greatest.Num < band.Lo*greatest.Den || least.Num > band.Hi*least.Den
		if isApart != (answer == api.AnswerYes) {
			t.Fatal(c, masses, band, answer)
		}
	}
}
