package jack_test

import (
	"math"
	"math/big"
	"slices"
	"testing"

	"ductility/api"
	"ductility/jack"
)

// contradicting are the extensions of the examples that are those of no pose.
func contradicting() []int { return []int{3, -2, 1, 0, 5, 4, 2, -3} }

// nearest is the pose for them.
func nearest() api.JackPose {
	return api.JackPose{Parts: api.JackWay{10, -5, 3, 0, 15, 12}, Den: 3}
}

// P1.3, example 3
func TestPoseOfExtensions(t *testing.T) {
	r, measured := exampleRig(), contradicting()
	if p, e := jack.PoseOf(r, measured); p != nearest() || e != api.OK {
		t.Error(p, e)
	}
	if q, e := jack.ResidualOf(r, measured); q != (api.Frac{Num: 1, Den: 3}) || e != api.OK {
		t.Error(q, e)
	}
	if i, e := jack.CheckPose(r, measured, nearest()); i != 0 || e != api.OK {
		t.Error(i, e)
	}
	if p, e := jack.PoseOf(r, make([]int, 8)); p != (api.JackPose{Den: 1}) || e != api.OK {
		t.Error("extensions of 0", p, e)
	}
}

// P1.3
func TestExtensionErrors(t *testing.T) {
	r := exampleRig()
	five := api.JackRig{Jacks: r.Jacks[:5], Limits: r.Limits}
	for _, x := range []struct {
		name     string
		r        api.JackRig
		measured []int
		want     api.Errno
	}{
		{"none", r, nil, api.ErrShape},
		{"too few", r, []int{300, 0, 0, 0, 0, 0, 0}, api.ErrShape},
		{"too many", r, make([]int, 9), api.ErrShape},
		{"above", r, []int{0, 0, 0, 0, 0, 0, 0, 201}, api.ErrRange},
		{"below", r, []int{-201, 0, 0, 0, 0, 0, 0, 0}, api.ErrRange},
		{"the smallest", r, []int{math.MinInt, 0, 0, 0, 0, 0, 0, 0}, api.ErrRange},
		{"above, not enough jacks", five, []int{201, 0, 0, 0, 0}, api.ErrRange},
		{"not enough jacks", five, []int{200, 0, 0, 0, 0}, api.ErrOpen},
	} {
		if p, e := jack.PoseOf(x.r, x.measured); p != (api.JackPose{}) || e != x.want {
			t.Error(x.name, p, e)
		}
		if q, e := jack.ResidualOf(x.r, x.measured); q != (api.Frac{}) || e != x.want {
			t.Error(x.name, q, e)
		}
		if i, e := jack.CheckPose(x.r, x.measured, api.JackPose{Parts: api.JackWay{200}, Den: 1}); i != 0 || e != x.want {
			t.Error(x.name, i, e)
		}
		want := x.want
		if want == api.ErrOpen {
			want = api.OK
		}
		if l, e := jack.OddJacks(x.r, x.measured); len(l) != 0 || e != want {
			t.Error(x.name, l, e)
		}
	}
}

// P1.3: seven jacks are not enough if their directions are dependent.
func TestDependentJacks(t *testing.T) {
	r := exampleRig()
	r.Jacks = slices.Delete(r.Jacks, 3, 4)
	if p, e := jack.PoseOf(r, make([]int, 7)); p != (api.JackPose{}) || e != api.ErrOpen {
		t.Error(p, e)
	}
	if q, e := jack.ResidualOf(r, make([]int, 7)); q != (api.Frac{}) || e != api.ErrOpen {
		t.Error(q, e)
	}
	if i, e := jack.CheckPose(r, make([]int, 7), api.JackPose{Den: 1}); i != 0 || e != api.ErrOpen {
		t.Error(i, e)
	}
	if i, e := jack.CheckPose(r, make([]int, 7), api.JackPose{Parts: api.JackWay{0, 0, 1}, Den: 1}); i != 2 || e != api.ErrProof {
		t.Error("the proof comes before the rank", i, e)
	}
}

// P1.3
func TestWrongPoses(t *testing.T) {
	r, measured := exampleRig(), contradicting()
	for _, x := range []struct {
		name   string
		change func(p *api.JackPose)
		index  int
		want   api.Errno
	}{
		{"Den 0", func(p *api.JackPose) { p.Den = 0 }, 0, api.ErrRange},
		{"Den below 0", func(p *api.JackPose) { p.Den = -3; p.Parts = api.JackWay{-10, 5, -3, 0, -15, -12} }, 0, api.ErrRange},
		{"Den above", func(p *api.JackPose) { p.Den = api.MaxJackDen + 1 }, 0, api.ErrRange},
		{"part above", func(p *api.JackPose) { p.Parts[5] = api.MaxJackNumber + 1 }, 0, api.ErrRange},
		{"part below", func(p *api.JackPose) { p.Parts[0] = -api.MaxJackNumber - 1 }, 0, api.ErrRange},
		{"smallest part", func(p *api.JackPose) { p.Parts[0] = math.MinInt }, 0, api.ErrRange},
		{"range before form", func(p *api.JackPose) { *p = api.JackPose{Parts: api.JackWay{2 * api.MaxJackNumber}, Den: 2} }, 0, api.ErrRange},
		{"not in lowest terms", func(p *api.JackPose) { *p = api.JackPose{Parts: api.JackWay{20, -10, 6, 0, 30, 24}, Den: 6} }, 0, api.ErrForm},
		{"form before proof", func(p *api.JackPose) { *p = api.JackPose{Parts: api.JackWay{2}, Den: 2} }, 0, api.ErrForm},
		{"0 with another Den", func(p *api.JackPose) { *p = api.JackPose{Den: 2} }, 0, api.ErrForm},
		{"first part", func(p *api.JackPose) { p.Parts[0]++ }, 0, api.ErrProof},
		{"fourth part", func(p *api.JackPose) { p.Parts[3]++ }, 3, api.ErrProof},
		{"two parts", func(p *api.JackPose) { p.Parts[4]++; p.Parts[5]++ }, 2, api.ErrProof}, // the jack 7 goes with the parts 2 and 5
		{"greatest numbers", func(p *api.JackPose) {
			*p = api.JackPose{Parts: api.JackWay{api.MaxJackNumber, -api.MaxJackNumber, 0, 0, 0, 1}, Den: api.MaxJackDen}
		}, 0, api.ErrProof},
	} {
		p := nearest()
		x.change(&p)
		if i, e := jack.CheckPose(r, measured, p); i != x.index || e != x.want {
			t.Error(x.name, i, e)
		}
	}
}

// squaresLeft returns the sum of the squares of what a pose, divided by den, leaves of extensions.
func squaresLeft(r api.JackRig, measured []int, parts api.JackWay, den int) *big.Rat {
	sum := new(big.Rat)
	for i, j := range r.Jacks {
		left := new(big.Rat).SetFrac(product(j.Direction, parts), big.NewInt(int64(den)))
		left.Sub(left, big.NewRat(int64(measured[i]), 1))
		sum.Add(sum, left.Mul(left, left))
	}
	return sum
}

// P1.7
func TestPosesBothWays(t *testing.T) {
	random := fixedRandom()
	for range 300 {
		r, pose := someSolidRig(random), someWay(random, 16)
		measured := mustExtend(t, r, pose)
		if p, e := jack.PoseOf(r, measured); p != (api.JackPose{Parts: pose, Den: 1}) || e != api.OK {
			t.Fatal(r, pose, p, e)
		}
		if q, e := jack.ResidualOf(r, measured); q != (api.Frac{Num: 0, Den: 1}) || e != api.OK {
			t.Fatal(r, pose, q, e)
		}
	}
}

// P1.7: the pose is accepted, its neighbours are not, and the residual is what it leaves, less than any whole pose.
func TestPosesAreNearest(t *testing.T) {
	random := fixedRandom()
	for range 300 {
		r := someSolidRig(random)
		measured := someList(random, len(r.Jacks), api.MaxJackStroke)
		p, e := jack.PoseOf(r, measured)
		if e != api.OK || p.Den < 1 || p.Den > api.MaxJackDen {
			t.Fatal(r, measured, p, e)
		}
		if i, e := jack.CheckPose(r, measured, p); i != 0 || e != api.OK {
			t.Fatal(r, measured, p, i, e)
		}
		q, e := jack.ResidualOf(r, measured)
		left := squaresLeft(r, measured, p.Parts, p.Den)
		if e != api.OK || left.Num().Int64() != int64(q.Num) || left.Denom().Int64() != int64(q.Den) {
			t.Fatal(r, measured, q, left, e)
		}
		for range 10 {
			var whole api.JackWay
			for i := range whole {
				whole[i] = p.Parts[i]/p.Den + within(random, 2)
			}
			if squaresLeft(r, measured, whole, 1).Cmp(left) < 0 {
				t.Fatal(r, measured, whole)
			}
		}
		wrong := p
		wrong.Parts[random.IntN(6)] += 1 - 2*random.IntN(2)
		if i, e := jack.CheckPose(r, measured, wrong); e != api.ErrProof && e != api.ErrForm {
			t.Fatal(r, measured, wrong, i, e)
		}
	}
}

// P1.3: nothing overflows with the greatest directions and extensions.
func TestWidestPoses(t *testing.T) {
	random := fixedRandom()
	for n := range 200 {
		r := widestRig()
		for i := range r.Jacks {
			if n > 0 {
				r.Jacks[i].Direction[random.IntN(6)] *= 1 - 2*random.IntN(2)
			}
		}
		measured := make([]int, 8)
		for i := range measured {
			measured[i] = api.MaxJackStroke * (1 - 2*random.IntN(2))
		}
		p, e := jack.PoseOf(r, measured)
		if rankByQuotients(r) < 6 {
			if e != api.ErrOpen {
				t.Fatal(r, p, e)
			}
			continue
		}
		if i, err := jack.CheckPose(r, measured, p); e != api.OK || i != 0 || err != api.OK {
			t.Fatal(r, measured, p, e, i, err)
		}
		q, e := jack.ResidualOf(r, measured)
		if left := squaresLeft(r, measured, p.Parts, p.Den); e != api.OK || left.Cmp(big.NewRat(int64(q.Num), int64(q.Den))) != 0 {
			t.Fatal(r, measured, q, left, e)
		}
	}
}

// P1.3, example 4
func TestOddJacks(t *testing.T) {
	r := exampleRig()
	for _, x := range []struct {
		name     string
		measured []int
		want     []int
	}{
		{"example", contradicting(), []int{0}},
		{"those of a pose", []int{3, -2, 1, 0, 5, 4, 1, -3}, nil},
		{"other jacks", []int{3, -2, 1, 0, 5, 4, 1, -2}, []int{2}},
		{"two of them", []int{3, -2, 1, 0, 5, 4, 2, -2}, []int{0, 2}},
	} {
		if l, e := jack.OddJacks(r, x.measured); !slices.Equal(l, x.want) || e != api.OK {
			t.Error(x.name, l, e)
		}
	}
	few := api.JackRig{Jacks: r.Jacks[4:8], Limits: r.Limits}
	if l, e := jack.OddJacks(few, []int{200, -200, 7, 9}); len(l) != 0 || e != api.OK {
		t.Error("independent directions", l, e)
	}
	same := api.JackRig{Jacks: []api.JackJack{r.Jacks[6], r.Jacks[0], r.Jacks[6], r.Jacks[6]}, Limits: r.Limits}
	if l, e := jack.OddJacks(same, []int{1, 5, 2, 1}); !slices.Equal(l, []int{2}) || e != api.OK {
		t.Error("the fewest ones before the first ones", l, e)
	}
	if l, e := jack.OddJacks(same, []int{1, 5, 2, 3}); !slices.Equal(l, []int{0, 2}) || e != api.OK {
		t.Error("all are different", l, e)
	}
	four := api.JackRig{Jacks: slices.Repeat(r.Jacks[6:7], 4), Limits: r.Limits}
	if l, e := jack.OddJacks(four, []int{1, 2, 3, 4}); !slices.Equal(l, []int{0, 1, 2}) || e != api.OK {
		t.Error("all but one", l, e)
	}
	doubled := api.JackRig{Jacks: []api.JackJack{{Direction: api.JackWay{1}}, {Direction: api.JackWay{2}}}}
	if l, e := jack.OddJacks(doubled, []int{0, 1}); !slices.Equal(l, []int{0}) || e != api.OK {
		t.Error("not the double", l, e)
	}
	if l, e := jack.OddJacks(api.JackRig{Jacks: []api.JackJack{{Direction: api.JackWay{2}}, {Direction: api.JackWay{-2}}}}, []int{1, -1}); len(l) != 0 || e != api.OK {
		t.Error("a pose of fractions", l, e)
	}
}

// leastOdd returns the odd jacks by looking at all sets.
func leastOdd(r api.JackRig, measured []int) []int {
	var least []int
	for bits := range 1 << len(r.Jacks) {
		var set []int
		for i := range r.Jacks {
			if bits>>i&1 == 1 {
				set = append(set, i)
			}
		}
		isBetter := bits == 0 || len(set) < len(least) || len(set) == len(least) && slices.Compare(set, least) < 0
		if isBetter && agreeByRanks(r, measured, func(i int) bool { return bits>>i&1 == 0 }) {
			if len(set) == 0 {
				return nil
			}
			least = set
		} else if bits == 0 {
			least = []int{0, 1, 2, 3, 4, 5, 6, 7, 8} // more than there are
		}
	}
	return least
}

// P1.8
func TestChangedExtensions(t *testing.T) {
	random := fixedRandom()
	for range 60 {
		r := someRig(random, 1+random.IntN(8))
		measured := mustExtend(t, r, someWay(random, 8))
		if l, e := jack.OddJacks(r, measured); len(l) != 0 || e != api.OK {
			t.Fatal(r, measured, l, e)
		}
		changes := random.IntN(4)
		for range changes {
			measured[random.IntN(len(measured))] += within(random, 3)
		}
		l, e := jack.OddJacks(r, measured)
		if e != api.OK || len(l) > changes || !slices.Equal(l, leastOdd(r, measured)) {
			t.Fatal(r, measured, changes, l, e)
		}
		if !agreeByRanks(r, measured, func(i int) bool { return !slices.Contains(l, i) }) {
			t.Fatal(r, measured, l)
		}
	}
}
