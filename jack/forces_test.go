package jack_test

import (
	"math"
	"math/big"
	"slices"
	"testing"

	"ductility/api"
	"ductility/jack"
)

// shares are those of the wrench 1 0 0 0 0 0 in the examples.
func shares() api.JackShare {
	return api.JackShare{Forces: []int{2, -1, 0, 0, 0, 0, 1, 0}, Multipliers: api.JackWay{2, -1}, Den: 3}
}

// areSame tells whether shares are the same.
func areSame(a, b api.JackShare) bool {
	return slices.Equal(a.Forces, b.Forces) && a.Multipliers == b.Multipliers && a.Den == b.Den
}

// P1.4, example 5
func TestForces(t *testing.T) {
	r := exampleRig()
	if x, e := jack.ForcesOf(r, api.JackWay{1}); !areSame(x, shares()) || e != api.OK {
		t.Error(x, e)
	}
	if i, e := jack.CheckForces(r, api.JackWay{1}, shares()); i != 0 || e != api.OK {
		t.Error(i, e)
	}
	threefold := shares()
	threefold.Den = 1
	if x, e := jack.ForcesOf(r, api.JackWay{3}); !areSame(x, threefold) || e != api.OK {
		t.Error("lowest terms", x, e)
	}
	none := api.JackShare{Forces: make([]int, 8), Den: 1}
	if x, e := jack.ForcesOf(r, api.JackWay{}); !areSame(x, none) || e != api.OK {
		t.Error("no wrench", x, e)
	}
	if i, e := jack.CheckForces(r, api.JackWay{}, none); i != 0 || e != api.OK {
		t.Error("no wrench", i, e)
	}
}

// P1.4
func TestWrenchErrors(t *testing.T) {
	r := exampleRig()
	five := api.JackRig{Jacks: r.Jacks[:5], Limits: r.Limits}
	for _, x := range []struct {
		name   string
		r      api.JackRig
		wrench api.JackWay
		want   api.Errno
	}{
		{"above", r, api.JackWay{1001}, api.ErrRange},
		{"below", r, api.JackWay{0, 0, 0, 0, 0, -1001}, api.ErrRange},
		{"the smallest", r, api.JackWay{math.MinInt}, api.ErrRange},
		{"above, not enough jacks", five, api.JackWay{1001}, api.ErrRange},
		{"not enough jacks", five, api.JackWay{1000}, api.ErrOpen},
		{"nothing, not enough jacks", five, api.JackWay{}, api.ErrOpen},
	} {
		got, e := jack.ForcesOf(x.r, x.wrench)
		if len(got.Forces) != 0 || got.Multipliers != (api.JackWay{}) || got.Den != 0 || e != x.want {
			t.Error(x.name, got, e)
		}
		forces := make([]int, len(x.r.Jacks))
		forces[0] = x.wrench[0]
		if i, e := jack.CheckForces(x.r, x.wrench, api.JackShare{Forces: forces, Multipliers: x.wrench, Den: 1}); i != 0 || e != x.want {
			t.Error(x.name, i, e)
		}
	}
}

// P1.4
func TestWrongForces(t *testing.T) {
	r, wrench := exampleRig(), api.JackWay{1}
	for _, x := range []struct {
		name   string
		change func(x *api.JackShare)
		index  int
		want   api.Errno
	}{
		{"no forces", func(x *api.JackShare) { x.Forces = nil; x.Den = 0 }, 0, api.ErrShape},
		{"too few forces", func(x *api.JackShare) { x.Forces = x.Forces[:7] }, 0, api.ErrShape},
		{"too many forces", func(x *api.JackShare) { x.Forces = append(x.Forces, 0) }, 0, api.ErrShape},
		{"Den 0", func(x *api.JackShare) { x.Den = 0 }, 0, api.ErrRange},
		{"Den below 0", func(x *api.JackShare) { x.Den = -3 }, 0, api.ErrRange},
		{"Den above", func(x *api.JackShare) { x.Den = api.MaxJackDen + 1 }, 0, api.ErrRange},
		{"force above", func(x *api.JackShare) { x.Forces[7] = api.MaxJackNumber + 1 }, 0, api.ErrRange},
		{"smallest force", func(x *api.JackShare) { x.Forces[0] = math.MinInt }, 0, api.ErrRange},
		{"multiplier below", func(x *api.JackShare) { x.Multipliers[5] = -api.MaxJackNumber - 1 }, 0, api.ErrRange},
		{"range before form", func(x *api.JackShare) {
			*x = api.JackShare{Forces: make([]int, 8), Multipliers: api.JackWay{2 * api.MaxJackNumber}, Den: 2}
		}, 0, api.ErrRange},
		{"not in lowest terms", func(x *api.JackShare) {
			*x = api.JackShare{Forces: []int{4, -2, 0, 0, 0, 0, 2, 0}, Multipliers: api.JackWay{4, -2}, Den: 6}
		}, 0, api.ErrForm},
		{"form before proof", func(x *api.JackShare) { *x = api.JackShare{Forces: []int{3, 0, 0, 0, 0, 0, 0, 0}, Den: 3} }, 0, api.ErrForm},
		{"a force", func(x *api.JackShare) { x.Forces[6] = 2 }, 6, api.ErrProof},
		{"the last force", func(x *api.JackShare) { x.Forces[7] = 1 }, 7, api.ErrProof},
		{"a multiplier", func(x *api.JackShare) { x.Multipliers[1] = -2 }, 1, api.ErrProof},
		{"forces of another wrench", func(x *api.JackShare) { x.Den = 1 }, 0, api.ErrClash},
		{"a further part of the wrench", func(x *api.JackShare) { x.Forces[4] = 1; x.Multipliers[4] = 1 }, 4, api.ErrClash},
		{"greatest numbers", func(x *api.JackShare) {
			*x = api.JackShare{Forces: slices.Repeat([]int{api.MaxJackNumber}, 8), Den: api.MaxJackDen - 1}
			x.Multipliers = api.JackWay{api.MaxJackNumber, api.MaxJackNumber, api.MaxJackNumber, api.MaxJackNumber, api.MaxJackNumber, 1 - api.MaxJackNumber}
		}, 5, api.ErrProof},
	} {
		given := shares()
		x.change(&given)
		if i, e := jack.CheckForces(r, wrench, given); i != x.index || e != x.want {
			t.Error(x.name, i, e)
		}
	}
}

// P1.4: multipliers prove the forces before the sum is looked at, and the sum before the rank.
func TestForcesOfDependentJacks(t *testing.T) {
	r := exampleRig()
	r.Jacks = slices.Delete(r.Jacks, 3, 4)
	forces := []int{2, -1, 0, 0, 0, 1, 0}
	if i, e := jack.CheckForces(r, api.JackWay{1}, api.JackShare{Forces: forces, Multipliers: api.JackWay{2, -1}, Den: 3}); i != 0 || e != api.ErrOpen {
		t.Error(i, e)
	}
	if i, e := jack.CheckForces(r, api.JackWay{1, 0, 0, 1}, api.JackShare{Forces: forces, Multipliers: api.JackWay{2, -1}, Den: 3}); i != 3 || e != api.ErrClash {
		t.Error(i, e)
	}
}

// P1.10
func TestSharesAreLeast(t *testing.T) {
	random := fixedRandom()
	for range 300 {
		r, wrench := someSolidRig(random), someWay(random, api.MaxJackForce)
		x, e := jack.ForcesOf(r, wrench)
		if e != api.OK || len(x.Forces) != len(r.Jacks) {
			t.Fatal(r, wrench, x, e)
		}
		if i, e := jack.CheckForces(r, wrench, x); i != 0 || e != api.OK {
			t.Fatal(r, wrench, x, i, e)
		}
		wrong := api.JackShare{Forces: slices.Clone(x.Forces), Multipliers: x.Multipliers, Den: x.Den}
		wrong.Forces[random.IntN(len(wrong.Forces))]++
		if _, e := jack.CheckForces(r, wrench, wrong); e != api.ErrProof && e != api.ErrForm {
			t.Fatal(r, wrench, wrong, e)
		}
		wrong = api.JackShare{Forces: x.Forces, Multipliers: x.Multipliers, Den: x.Den}
		wrong.Multipliers[random.IntN(6)]--
		if _, e := jack.CheckForces(r, wrench, wrong); e == api.OK {
			t.Fatal(r, wrench, wrong)
		}
		// What the forces do in a pose is what the wrench does.
		pose, work := someWay(random, 9), new(big.Int)
		for i, n := range mustExtend(t, r, pose) {
			work.Add(work, new(big.Int).Mul(big.NewInt(int64(n)), big.NewInt(int64(x.Forces[i]))))
		}
		if want := new(big.Int).Mul(product(wrench, pose), big.NewInt(int64(x.Den))); work.Cmp(want) != 0 {
			t.Fatal(r, wrench, pose, work, want)
		}
	}
}

// P1.10: whole forces with the sum of a wrench have no smaller sum of squares.
func TestWholeForcesAreNotLess(t *testing.T) {
	random := fixedRandom()
	for range 300 {
		r := someSolidRig(random)
		forces := someList(random, len(r.Jacks), 9)
		var wrench api.JackWay
		squares := 0
		for i, j := range r.Jacks {
			for part := range wrench {
				wrench[part] += forces[i] * j.Direction[part]
			}
			squares += forces[i] * forces[i]
		}
		x, e := jack.ForcesOf(r, wrench)
		if e != api.OK {
			t.Fatal(r, wrench, e)
		}
		least := new(big.Int)
		for _, n := range x.Forces {
			least.Add(least, new(big.Int).Mul(big.NewInt(int64(n)), big.NewInt(int64(n))))
		}
		den := big.NewInt(int64(x.Den))
		if most := den.Mul(den, den).Mul(den, big.NewInt(int64(squares))); least.Cmp(most) > 0 {
			t.Fatal(r, forces, x)
		}
	}
}

// P1.4: nothing overflows with the greatest directions and wrenches.
func TestWidestForces(t *testing.T) {
	r := widestRig()
	wrench := api.JackWay{1000, -1000, 1000, -1000, 999, 1000}
	x, e := jack.ForcesOf(r, wrench)
	if e != api.OK {
		t.Fatal(e)
	}
	if i, e := jack.CheckForces(r, wrench, x); i != 0 || e != api.OK {
		t.Error(x, i, e)
	}
}
