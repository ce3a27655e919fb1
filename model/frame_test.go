package model_test

import (
	"math"
	"math/big"
	"slices"
	"testing"

	"ductility/api"
	"ductility/model"
)

// P5.4
func TestCheckFrame(t *testing.T) {
	for _, f := range []api.ModelFrame{exampleFrame(), greatFrame(), smallFrame(), frameOf(floorOf(10000, 1, brittle(1, 1)), floorOf(1, 1000, brittle(1, 1000)))} {
		if i, e := model.CheckFrame(f); i != 0 || e != api.OK {
			t.Error(f, i, e)
		}
	}
	for _, x := range badFrames() {
		if i, e := model.CheckFrame(x.f); i != x.index || e != x.want {
			t.Error(x.name, i, e)
		}
	}
}

// P5.4 to P5.6: a frame with an error has it in all functions, before the errors of further arguments.
func TestFrameErrors(t *testing.T) {
	for _, x := range badFrames() {
		if rows, e := model.StiffnessOf(x.f); len(rows) != 0 || e != x.want {
			t.Error("StiffnessOf", x.name, rows, e)
		}
		if l, e := model.DriftsUnder(x.f, make([]int, 9)); len(l) != 0 || e != x.want {
			t.Error("DriftsUnder", x.name, l, e)
		}
		if s, e := model.BeginOf(x.f); !isNothing(s) || e != x.want {
			t.Error("BeginOf", x.name, s, e)
		}
		for _, s := range []api.ModelState{{}, exampleState()} {
			if i, e := model.CheckState(x.f, s); i != x.index || e != x.want {
				t.Error("CheckState", x.name, i, e)
			}
			if s, e := model.StepOf(x.f, s, 101); !isNothing(s) || e != x.want {
				t.Error("StepOf", x.name, s, e)
			}
			if b, e := model.BalanceOf(x.f, s, 101); !isNothing(b) || e != x.want {
				t.Error("BalanceOf", x.name, b, e)
			}
		}
		if l, storey, e := model.RunOf(x.f, make([]int, 61)); len(l) != 0 || storey != 0 || e != x.want {
			t.Error("RunOf", x.name, l, storey, e)
		}
		if l, e := model.PeaksOf(x.f, []int{101}); len(l) != 0 || e != x.want {
			t.Error("PeaksOf", x.name, l, e)
		}
	}
}

// P5.4, example 5
func TestStiffness(t *testing.T) {
	three := frameOf(floorOf(1, 1, ductile(5, 1), brittle(7, 1)), floorOf(1, 1, ductile(3, 1)), floorOf(1, 1, ductile(1, 1), ductile(1, 1)))
	great := [][]int{{8000, -4000, 0, 0, 0}, {-4000, 8000, -4000, 0, 0}, {0, -4000, 8000, -4000, 0}, {0, 0, -4000, 8000, -4000}, {0, 0, 0, -4000, 4000}}
	for _, x := range []struct {
		name string
		f    api.ModelFrame
		want [][]int
	}{
		{"example", exampleFrame(), [][]int{{6, -2}, {-2, 2}}},
		{"one floor", smallFrame(), [][]int{{1}}},
		{"three floors", three, [][]int{{15, -3, 0}, {-3, 5, -2}, {0, -2, 2}}},
		{"the greatest", greatFrame(), great},
	} {
		if rows, e := model.StiffnessOf(x.f); !areSame(rows, x.want) || e != api.OK {
			t.Error(x.name, rows, e)
		}
	}
}

// P5.4, example 5
func TestDrifts(t *testing.T) {
	const most = api.MaxModelForce
	for _, x := range []struct {
		name   string
		f      api.ModelFrame
		forces []int
		want   []api.Frac
		e      api.Errno
	}{
		{"example", exampleFrame(), []int{6, 4}, []api.Frac{frac(5, 2), frac(2, 1)}, api.OK},
		{"no forces", exampleFrame(), []int{0, 0}, []api.Frac{frac(0, 1), frac(0, 1)}, api.OK},
		{"below 0", exampleFrame(), []int{6, -7}, []api.Frac{frac(-1, 4), frac(-7, 2)}, api.OK},
		{"they cancel", exampleFrame(), []int{most, -most}, []api.Frac{frac(0, 1), frac(-most/2, 1)}, api.OK},
		{"the greatest", greatFrame(), slices.Repeat([]int{most}, 5), []api.Frac{frac(1250, 1), frac(1000, 1), frac(750, 1), frac(500, 1), frac(250, 1)}, api.OK},
		{"one floor", smallFrame(), []int{-most}, []api.Frac{frac(-most, 1)}, api.OK},
		{"nothing", exampleFrame(), nil, nil, api.ErrShape},
		{"too few", exampleFrame(), []int{most + 1}, nil, api.ErrShape},
		{"too many", exampleFrame(), []int{0, 0, most + 1}, nil, api.ErrShape},
		{"above", exampleFrame(), []int{most + 1, 0}, nil, api.ErrRange},
		{"below", exampleFrame(), []int{0, -most - 1}, nil, api.ErrRange},
		{"the greatest force", exampleFrame(), []int{math.MaxInt, 0}, nil, api.ErrRange},
		{"the smallest force", exampleFrame(), []int{0, math.MinInt}, nil, api.ErrRange},
	} {
		if l, e := model.DriftsUnder(x.f, x.forces); !areSame(l, x.want) || e != x.e {
			t.Error(x.name, l, e)
		}
	}
}

// P5.12
func TestForcesBalance(t *testing.T) {
	random := fixedRandom()
	for range 1000 {
		f := someFrame(random)
		forces := make([]int, len(f.Floors))
		for i := range forces {
			forces[i] = within(random, api.MaxModelForce)
		}
		rows, e := model.StiffnessOf(f)
		drifts, driftsError := model.DriftsUnder(f, forces)
		if firstOf(e, driftsError) != api.OK || len(rows) != len(forces) || len(drifts) != len(forces) {
			t.Fatal(f, forces, e, driftsError)
		}
		displacements := make([]*big.Rat, len(drifts))
		sum := new(big.Rat)
		for i, x := range drifts {
			if x.Den < 1 || max(divisorOf(x.Num, x.Den), -divisorOf(x.Num, x.Den)) != 1 {
				t.Fatal("not in lowest terms", x)
			}
			sum = new(big.Rat).Add(sum, big.NewRat(int64(x.Num), int64(x.Den)))
			displacements[i] = sum
		}
		for i, row := range rows {
			got := new(big.Rat)
			for k, n := range row {
				got.Add(got, new(big.Rat).Mul(big.NewRat(int64(n), 1), displacements[k]))
				if rows[k][i] != n {
					t.Fatal("not symmetric", rows)
				}
			}
			if got.Cmp(big.NewRat(int64(forces[i]), 1)) != 0 {
				t.Fatal(f, forces, i, got)
			}
		}
	}
}
