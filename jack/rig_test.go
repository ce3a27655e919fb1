package jack_test

import (
	"math"
	"slices"
	"testing"

	"ductility/api"
	"ductility/jack"
)

// badRig is a rig with an error, and what CheckRig says of it.
type badRig struct {
	name   string
	change func(r *api.JackRig)
	index  int
	want   api.Errno
}

// badRigs lists all errors of rigs; each change makes errors that are listed later, or stand in later items, too.
func badRigs() []badRig {
	return []badRig{
		{"no jacks", func(r *api.JackRig) { r.Jacks = nil; r.Limits[0].Lo = 2000 }, 0, api.ErrShape},
		{"empty jacks", func(r *api.JackRig) { r.Jacks = []api.JackJack{} }, 0, api.ErrShape},
		{"nine jacks", func(r *api.JackRig) { r.Jacks = append(r.Jacks, r.Jacks[0]); r.Jacks[0] = api.JackJack{} }, 0, api.ErrLarge},
		{"direction above", func(r *api.JackRig) { r.Jacks[3].Direction[5] = 3; r.Jacks[3].Stroke = api.Range{Lo: 1} }, 3, api.ErrRange},
		{"direction below", func(r *api.JackRig) { r.Jacks[7].Direction[0] = -3 }, 7, api.ErrRange},
		{"smallest direction", func(r *api.JackRig) { r.Jacks[2].Direction[0] = math.MinInt }, 2, api.ErrRange},
		{"stroke below", func(r *api.JackRig) { r.Jacks[1].Stroke.Lo = -201; r.Jacks[1].Direction = api.JackWay{} }, 1, api.ErrRange},
		{"stroke above", func(r *api.JackRig) { r.Jacks[1].Stroke.Hi = 201 }, 1, api.ErrRange},
		{"range before order", func(r *api.JackRig) { r.Jacks[1].Stroke = api.Range{Lo: 201, Hi: 200} }, 1, api.ErrRange},
		{"stroke reversed", func(r *api.JackRig) { r.Jacks[6].Stroke = api.Range{Lo: 1}; r.Jacks[6].Direction = api.JackWay{} }, 6, api.ErrOrder},
		{"no direction", func(r *api.JackRig) { r.Jacks[5].Direction = api.JackWay{}; r.Jacks[6].Stroke.Lo = 201 }, 5, api.ErrZero},
		{"jacks before limits", func(r *api.JackRig) { r.Jacks[7].Direction = api.JackWay{}; r.Limits[0].Lo = 2000 }, 7, api.ErrZero},
		{"limit below", func(r *api.JackRig) { r.Limits[4].Lo = -1001; r.Limits[5] = api.Range{Lo: 1} }, 4, api.ErrRange},
		{"limit above", func(r *api.JackRig) { r.Limits[0] = api.Range{Lo: 1001, Hi: 1000} }, 0, api.ErrRange},
		{"limit reversed", func(r *api.JackRig) { r.Limits[5] = api.Range{Lo: 1, Hi: 0} }, 5, api.ErrOrder},
	}
}

// P1.1
func TestRigErrors(t *testing.T) {
	for _, x := range badRigs() {
		r := exampleRig()
		x.change(&r)
		if i, e := jack.CheckRig(r); i != x.index || e != x.want {
			t.Error(x.name, i, e)
		}
		if n, e := jack.RankOf(r); n != 0 || e != x.want {
			t.Error(x.name, n, e)
		}
	}
}

// P1.1
func TestGoodRigs(t *testing.T) {
	one := api.JackRig{Jacks: []api.JackJack{{Direction: api.JackWay{0, 0, 0, 0, 0, -2}}}}
	for _, r := range []api.JackRig{exampleRig(), widestRig(), one} {
		if i, e := jack.CheckRig(r); i != 0 || e != api.OK {
			t.Error(r, i, e)
		}
	}
}

// P1.1
func TestRanks(t *testing.T) {
	r := exampleRig()
	for count, want := range []int{1: 1, 2: 2, 6: 6, 7: 6, 8: 6} {
		if want == 0 {
			continue
		}
		some := api.JackRig{Jacks: r.Jacks[:count]}
		if n, e := jack.RankOf(some); n != want || e != api.OK {
			t.Error(count, n, e)
		}
	}
	same := api.JackRig{Jacks: []api.JackJack{{Direction: api.JackWay{1, 2}}, {Direction: api.JackWay{1, 2}}}}
	if n, e := jack.RankOf(same); n != 1 || e != api.OK {
		t.Error("two jacks with the same direction", n, e)
	}
	opposite := api.JackRig{Jacks: []api.JackJack{{Direction: api.JackWay{1, -1}}, {Direction: api.JackWay{-2, 2}}}}
	if n, e := jack.RankOf(opposite); n != 1 || e != api.OK {
		t.Error("opposite directions", n, e)
	}
}

// P1.12
func TestRanksOfFurtherJacks(t *testing.T) {
	random := fixedRandom()
	for range 300 {
		r := someRig(random, 8)
		before := 0
		for count := 1; count <= 8; count++ {
			some := api.JackRig{Jacks: r.Jacks[:count], Limits: r.Limits}
			n, e := jack.RankOf(some)
			if e != api.OK || n != rankByQuotients(some) || n < before || n > before+1 || n == 6 && count < 6 {
				t.Fatal(some, n, before, e)
			}
			before = n
		}
	}
}

// calls is one call of each function that has a rig; each returns whether its other results are zero values.
func calls() map[string]func(r api.JackRig) (bool, api.Errno) {
	measured := make([]int, 8)
	return map[string]func(r api.JackRig) (bool, api.Errno){
		"ExtensionsOf": func(r api.JackRig) (bool, api.Errno) {
			l, e := jack.ExtensionsOf(r, api.JackWay{2000})
			return len(l) == 0, e
		},
		"RangesIn": func(r api.JackRig) (bool, api.Errno) {
			l, e := jack.RangesIn(r, [6]api.Range{{Lo: 2000}})
			return len(l) == 0, e
		},
		"MarginOf": func(r api.JackRig) (bool, api.Errno) {
			i, n, e := jack.MarginOf(r, api.JackWay{2000})
			return i == 0 && n == 0, e
		},
		"IsPermitted": func(r api.JackRig) (bool, api.Errno) {
			is, e := jack.IsPermitted(r, api.JackWay{2000})
			return !is, e
		},
		"ScaleFor": func(r api.JackRig) (bool, api.Errno) {
			n, e := jack.ScaleFor(r, api.JackWay{-1})
			return n == 0, e
		},
		"PoseOf": func(r api.JackRig) (bool, api.Errno) {
			p, e := jack.PoseOf(r, measured[:3])
			return p == api.JackPose{}, e
		},
		"CheckPose": func(r api.JackRig) (bool, api.Errno) {
			i, e := jack.CheckPose(r, measured[:3], api.JackPose{})
			return i == 0, e
		},
		"ResidualOf": func(r api.JackRig) (bool, api.Errno) {
			q, e := jack.ResidualOf(r, measured[:3])
			return q == api.Frac{}, e
		},
		"OddJacks": func(r api.JackRig) (bool, api.Errno) {
			l, e := jack.OddJacks(r, measured[:3])
			return len(l) == 0, e
		},
		"ForcesOf": func(r api.JackRig) (bool, api.Errno) {
			x, e := jack.ForcesOf(r, api.JackWay{2000})
			return len(x.Forces) == 0 && x.Multipliers == api.JackWay{} && x.Den == 0, e
		},
		"CheckForces": func(r api.JackRig) (bool, api.Errno) {
			i, e := jack.CheckForces(r, api.JackWay{2000}, api.JackShare{})
			return i == 0, e
		},
		"SpansOf": func(r api.JackRig) (bool, api.Errno) {
			l, e := jack.SpansOf(r, api.JackPiece{})
			return len(l) == 0, e
		},
		"FirstOut": func(r api.JackRig) (bool, api.Errno) {
			o, e := jack.FirstOut(r, nil)
			return o == [2]int{}, e
		},
	}
}

// P0, R1, R9: the error of the rig comes before those of all other arguments, without the index.
func TestRigErrorsComeFirst(t *testing.T) {
	for name, call := range calls() {
		for _, x := range badRigs() {
			r := exampleRig()
			x.change(&r)
			if isZero, e := call(r); !isZero || e != x.want {
				t.Error(name, x.name, isZero, e)
			}
		}
	}
}

// R3: no function changes its arguments, or keeps them in its results.
func TestArgumentsStay(t *testing.T) {
	r, path, measured := exampleRig(), examplePath(), []int{3, -2, 1, 0, 5, 4, 2, -3}
	x, e := jack.ForcesOf(r, api.JackWay{1})
	if e != api.OK {
		t.Fatal(e)
	}
	for name, call := range calls() {
		if _, e := call(r); e == api.OK {
			t.Error(name, e)
		}
	}
	odd, _ := jack.OddJacks(r, measured)
	odd[0] = 7
	extensions := mustExtend(t, r, api.JackWay{1})
	extensions[0] = 7
	jack.CheckForces(r, api.JackWay{1}, x)
	jack.PoseOf(r, measured)
	jack.FirstOut(r, path)
	if jack.FormatRig(r) != rigText || jack.FormatPieces(path) != pathText || !slices.Equal(measured, []int{3, -2, 1, 0, 5, 4, 2, -3}) {
		t.Error(r, path, measured)
	}
	if again := mustExtend(t, r, api.JackWay{1}); again[0] != 1 {
		t.Error(again)
	}
}
