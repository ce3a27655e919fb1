package hybrid_test

import (
	"math"
	"math/big"
	"slices"
	"testing"

	"ductility/api"
	"ductility/hybrid"
)

// P8.6
func TestCheckChain(t *testing.T) {
	for _, c := range goodChains() {
		index, e := hybrid.CheckChain(c)
		mustBe(t, c, index, e, 0, api.OK)
	}
	for _, b := range badChains() {
		index, e := hybrid.CheckChain(b.c)
		mustBe(t, b.name, index, e, b.index, b.want)
	}
}

// P8.6: the errors of the chain, then of the node
func TestErrorsOfChains(t *testing.T) {
	for _, b := range badChains() {
		moved, e := hybrid.MovedOf(b.c)
		mustFail(t, b.name, moved, e, b.want)
		stiffness, e := hybrid.StiffnessOf(b.c)
		mustFail(t, b.name, stiffness, e, b.want)
		for _, node := range []int{0, -1} {
			halves, e := hybrid.HalvesOf(b.c, node)
			mustFail(t, b.name, halves, e, b.want)
			index, e := hybrid.CheckHalves(b.c, node, api.HybridHalves{})
			mustFail(t, b.name, index, e, b.want)
		}
	}
	for _, c := range []api.HybridChain{exampleChain(), chainOf(1, 0), largeChain(false)} {
		for _, node := range []int{-1, len(c.Stiffness), len(c.Stiffness) + 1, math.MaxInt, math.MinInt} {
			halves, e := hybrid.HalvesOf(c, node)
			mustFail(t, node, halves, e, api.ErrMissing)
			index, e := hybrid.CheckHalves(c, node, api.HybridHalves{})
			mustFail(t, node, index, e, api.ErrMissing)
		}
	}
}

// P8.6, example 8
func TestMovedOf(t *testing.T) {
	for _, y := range []struct {
		c    api.HybridChain
		want []api.Frac
	}{
		{exampleChain(), wholes(5, 6)},
		{chainOf(1, 0), wholes(0)},
		{chainOf(20, -1000), wholes(-50)},
		{chainOf(3, 1, 7, 0, 3, -5), []api.Frac{frac(-4, 3), frac(-43, 21), frac(-26, 7)}},
		{chainOf(6, 4, 4, -4), []api.Frac{frac(0, 1), frac(-1, 1)}},
		{chainOf(2, 0, 3, 0, 5, 0, 7, 1), []api.Frac{frac(1, 2), frac(5, 6), frac(31, 30), frac(247, 210)}},
		{chainOf(1, 1000, 1, 1000, 1, 1000, 1, 1000, 1, 1000, 1, 1000), wholes(6000, 11000, 15000, 18000, 20000, 21000)},
	} {
		moved, e := hybrid.MovedOf(y.c)
		mustBe(t, y.c, moved, e, y.want, api.OK)
	}
}

// P8.6: a part of a displacement that is too great, at whichever node
func TestLargeChains(t *testing.T) {
	moved, e := hybrid.MovedOf(largeChain(false))
	mustFail(t, "moved", moved, e, api.ErrLarge)
	for node := range api.MaxHybridNodes {
		halves, e := hybrid.HalvesOf(largeChain(false), node)
		mustFail(t, node, halves, e, api.ErrLarge)
	}
	if first := slices.IndexFunc(movedByHand(largeChain(false)), isLarge); first != api.MaxHybridNodes-1 {
		t.Error("the first node that is too large is", first)
	}
	large := 0
	random := fixedRandom()
	for range 3000 {
		var c api.HybridChain
		for _, i := range random.Perm(6)[:4+random.IntN(3)] {
			c.Stiffness = append(c.Stiffness, []int{19, 17, 13, 11, 16, 15}[i])
			c.Forces = append(c.Forces, random.IntN(api.MaxHybridForce+1))
		}
		byHand := movedByHand(c)
		var want []api.Frac
		for _, u := range byHand {
			want = append(want, fracOf(u))
		}
		moved, e := hybrid.MovedOf(c)
		if slices.ContainsFunc(byHand, isLarge) {
			large++
			mustFail(t, c, moved, e, api.ErrLarge)
			continue
		}
		mustBe(t, c, moved, e, want, api.OK)
	}
	if large < 100 || large > 2900 {
		t.Error(large)
	}
}

// P8.6: a part that is MaxPart is not too great.
func TestGreatestParts(t *testing.T) {
	c := chainOf(19, 585, 17, 546, 13, 218, 11, 356, 9, 7, 7, 204)
	for _, sign := range []int{1, -1} {
		for node := range c.Forces {
			c.Forces[node] *= sign
		}
		moved, e := hybrid.MovedOf(c)
		if e != api.OK || moved[5] != frac(sign*api.MaxPart, 2909907) {
			t.Error(moved, e)
		}
		halves, e := hybrid.HalvesOf(c, 2)
		mustBe(t, c, halves, e, halvesOf(moved[:3], moved[3:], sign*567), api.OK)
		index, e := hybrid.CheckHalves(c, 2, halves)
		mustBe(t, c, index, e, 0, api.OK)
	}
}

// P8.6: by hand; and in balance.
func TestChains(t *testing.T) {
	random := fixedRandom()
	chains := goodChains()
	for range 1000 {
		chains = append(chains, someChain(random))
	}
	for _, c := range chains {
		byHand := movedByHand(c)
		if slices.ContainsFunc(byHand, isLarge) {
			moved, e := hybrid.MovedOf(c)
			mustFail(t, c, moved, e, api.ErrLarge)
			continue
		}
		var want []api.Frac
		for _, u := range byHand {
			want = append(want, fracOf(u))
		}
		moved, e := hybrid.MovedOf(c)
		mustBe(t, c, moved, e, want, api.OK)
		for node := range moved {
			if !isBalanced(c.Stiffness, c.Forces, frac(0, 1), moved, node) {
				t.Error(c, moved, node)
			}
		}
	}
}

// P8.6, example 8, and edge cases
func TestHalvesOf(t *testing.T) {
	for _, y := range []struct {
		c    api.HybridChain
		node int
		want api.HybridHalves
	}{
		{exampleChain(), 0, halvesOf(wholes(5), wholes(6), 4)},
		{exampleChain(), 1, halvesOf(wholes(5, 6), nil, 0)},
		{chainOf(4, -6), 0, halvesOf([]api.Frac{frac(-3, 2)}, nil, 0)},
		{chainOf(3, 1, 7, 0, 3, -5), 0, halvesOf([]api.Frac{frac(-4, 3)}, []api.Frac{frac(-43, 21), frac(-26, 7)}, -5)},
		{chainOf(3, 1, 7, 2, 3, -5), 0, halvesOf([]api.Frac{frac(-2, 3)}, []api.Frac{frac(-23, 21), frac(-58, 21)}, -3)},
	} {
		halves, e := hybrid.HalvesOf(y.c, y.node)
		mustBe(t, y.c, halves, e, y.want, api.OK)
	}
}

// P8.6, P8.12: halves are accepted, and are the chain's displacements, one after the other.
func TestHalves(t *testing.T) {
	random := fixedRandom()
	chains := goodChains()
	for range 500 {
		chains = append(chains, someChain(random))
	}
	for _, c := range chains {
		moved, movedError := hybrid.MovedOf(c)
		for node := range c.Stiffness {
			halves, e := hybrid.HalvesOf(c, node)
			if movedError != api.OK {
				mustFail(t, c, halves, e, movedError)
				continue
			}
			above := 0
			for _, force := range c.Forces[node+1:] {
				above += force
			}
			mustBe(t, c, halves, e, halvesOf(moved[:node+1], moved[node+1:], above), api.OK)
			index, e := hybrid.CheckHalves(c, node, halves)
			mustBe(t, c, index, e, 0, api.OK)
		}
	}
}

// P8.6: errors of halves
func TestErrorsOfHalves(t *testing.T) {
	const far = api.MaxPart + 1
	c, three := exampleChain(), chainOf(3, 1, 7, 2, 3, -5)
	first, second, third := frac(-2, 3), frac(-23, 21), frac(-58, 21)
	list := func(l ...api.Frac) []api.Frac { return l }
	for _, y := range []struct {
		name  string
		c     api.HybridChain
		node  int
		h     api.HybridHalves
		index int
		want  api.Errno
	}{
		{"nothing", c, 0, api.HybridHalves{}, 0, api.ErrShape},
		{"no lower half", c, 0, halvesOf(nil, wholes(5, 6), 4), 0, api.ErrShape},
		{"no upper half", c, 0, halvesOf(wholes(5, 6), nil, 4), 0, api.ErrShape},
		{"an upper half", c, 1, halvesOf(wholes(5), wholes(6), 4), 0, api.ErrShape},
		{"the upper half alone", c, 1, halvesOf(nil, wholes(5, 6), 0), 0, api.ErrShape},
		{"one too many above", c, 0, halvesOf(list(frac(1, 0)), wholes(6, 6), 4), 0, api.ErrShape},
		{"one too few above", three, 0, halvesOf(list(first), list(second), -3), 0, api.ErrShape},
		{"Den 0", c, 0, halvesOf(list(frac(5, 0)), wholes(6), 9), 0, api.ErrForm},
		{"Den 0 with 1", c, 0, halvesOf(list(frac(1, 0)), wholes(6), 4), 0, api.ErrForm},
		{"Den 0 with -1", c, 0, halvesOf(wholes(5), list(frac(-1, 0)), 4), 1, api.ErrForm},
		{"Den below 0", c, 0, halvesOf(list(frac(-5, -1)), list(frac(1, 0)), 4), 0, api.ErrForm},
		{"not lowest", c, 0, halvesOf(list(frac(10, 2)), wholes(6), 4), 0, api.ErrForm},
		{"not lowest above", c, 0, halvesOf(wholes(5), list(frac(12, 2)), 9), 1, api.ErrForm},
		{"0 with another Den", three, 1, halvesOf(list(first, frac(0, 7)), list(third), -5), 1, api.ErrForm},
		{"zero", three, 1, halvesOf(list(first, second), make([]api.Frac, 1), -5), 2, api.ErrForm},
		{"too great before a form", c, 0, halvesOf(wholes(far), list(frac(2, 2)), 9), 0, api.ErrRange},
		{"too great and not lowest", c, 0, halvesOf(list(frac(2*far, 2)), wholes(6), 9), 0, api.ErrForm},
		{"Num above", c, 0, halvesOf(wholes(far), wholes(6), 4), 0, api.ErrRange},
		{"Num below", c, 0, halvesOf(wholes(5), wholes(-far), 9), 1, api.ErrRange},
		{"Den above", c, 0, halvesOf(wholes(5), list(frac(1, far)), 4), 1, api.ErrRange},
		{"the greatest", c, 1, halvesOf(list(frac(5, 1), frac(math.MaxInt, 1)), nil, 0), 1, api.ErrRange},
		{"the smallest", c, 1, halvesOf(list(frac(5, 1), frac(math.MinInt, 1)), nil, 0), 1, api.ErrRange},
		{"the smallest Den", c, 1, halvesOf(list(frac(5, 1), frac(1, math.MinInt)), nil, 0), 1, api.ErrForm},
		{"both the smallest", c, 1, halvesOf(list(frac(math.MinInt, math.MinInt), frac(6, 1)), nil, 0), 0, api.ErrForm},
		{"the greatest Den", c, 1, halvesOf(list(frac(5, 1), frac(1, math.MaxInt)), nil, 0), 1, api.ErrRange},
		{"force", c, 0, halvesOf(wholes(5), wholes(6), 5), 0, api.ErrClash},
		{"the whole force", c, 0, halvesOf(wholes(5), wholes(6), 10), 0, api.ErrClash},
		{"force before balance", c, 0, halvesOf(wholes(1), wholes(1), -4), 0, api.ErrClash},
		{"force at the last node", c, 1, halvesOf(wholes(5, 6), nil, 4), 0, api.ErrClash},
		{"force that is missing", c, 0, halvesOf(wholes(5), wholes(6), 0), 0, api.ErrClash},
		{"the greatest force", c, 0, halvesOf(wholes(5), wholes(6), math.MaxInt), 0, api.ErrClash},
		{"the smallest force", c, 0, halvesOf(wholes(5), wholes(6), math.MinInt), 0, api.ErrClash},
		{"the lower one", c, 0, halvesOf(wholes(4), wholes(5), 4), 0, api.ErrProof},
		{"both", c, 0, halvesOf(wholes(4), wholes(6), 4), 0, api.ErrProof},
		{"the upper one", c, 0, halvesOf(wholes(5), wholes(7), 4), 1, api.ErrProof},
		{"the greatest upper one", c, 0, halvesOf(wholes(5), wholes(api.MaxPart), 4), 1, api.ErrProof},
		{"the last one of the lower half", c, 1, halvesOf(wholes(5, 7), nil, 0), 0, api.ErrProof},
		{"first node", three, 1, halvesOf(list(frac(-1, 3), second), list(third), -5), 0, api.ErrProof},
		{"last node", three, 1, halvesOf(list(first, second), list(frac(-57, 21-1)), -5), 2, api.ErrProof},
		{"by a whole number", three, 1, halvesOf(list(first, second), list(frac(-37, 21)), -5), 2, api.ErrProof},
		{"the node of the interface", three, 1, halvesOf(list(first, frac(-2, 21)), list(third), -5), 0, api.ErrProof},
		{"all by the same", three, 0, halvesOf(list(frac(1, 3)), list(frac(-2, 21), frac(-37, 21)), -3), 0, api.ErrProof},
		{"the upper half", three, 0, halvesOf(list(first), list(frac(-2, 21), frac(-37, 21)), -3), 1, api.ErrProof},
	} {
		index, e := hybrid.CheckHalves(y.c, y.node, y.h)
		mustBe(t, y.name, index, e, y.index, y.want)
	}
}

// proofByHand returns the index of the first node that is not in balance in its half, with ErrProof.
func proofByHand(c api.HybridChain, node int, h api.HybridHalves) (int, api.Errno) {
	forces := slices.Clone(c.Forces[:node+1])
	forces[node] += h.Force
	for i := range h.Lower {
		if !isBalanced(c.Stiffness[:node+1], forces, frac(0, 1), h.Lower, i) {
			return i, api.ErrProof
		}
	}
	for i := range h.Upper {
		if !isBalanced(c.Stiffness[node+1:], c.Forces[node+1:], h.Lower[node], h.Upper, i) {
			return node + 1 + i, api.ErrProof
		}
	}
	return 0, api.OK
}

// P8.6: by hand; one displacement after another is changed, by little or by much.
func TestWrongHalves(t *testing.T) {
	random := fixedRandom()
	indexes := map[int]int{}
	for range 500 {
		c := someChain(random)
		node := random.IntN(len(c.Stiffness))
		halves, e := hybrid.HalvesOf(c, node)
		if e != api.OK {
			continue
		}
		for i := range c.Stiffness {
			for _, by := range []*big.Rat{big.NewRat(1, 1), big.NewRat(-1, 60), big.NewRat(1, int64(1+random.IntN(90000))), big.NewRat(999983, int64(1+random.IntN(20)))} {
				wrong := halvesOf(slices.Clone(halves.Lower), slices.Clone(halves.Upper), halves.Force)
				part := &wrong.Lower[min(i, node)]
				if i > node {
					part = &wrong.Upper[i-node-1]
				}
				changed := by.Add(by, ratOf(*part))
				if isLarge(changed) {
					continue
				}
				*part = fracOf(changed)
				want, wantError := proofByHand(c, node, wrong)
				if wantError == api.OK {
					t.Fatal(c, wrong)
				}
				index, e := hybrid.CheckHalves(c, node, wrong)
				mustBe(t, c, index, e, want, wantError)
				indexes[index]++
			}
		}
	}
	for i := range api.MaxHybridNodes {
		if indexes[i] == 0 {
			t.Error("never the node", i, indexes)
		}
	}
}

// P8.6: parts of up to MaxPart are computed exactly: the first node is in balance, though its displacements are not whole.
func TestGreatHalves(t *testing.T) {
	for _, y := range []struct {
		c     api.HybridChain
		h     api.HybridHalves
		index int
	}{
		// 20 u - 1 (v - u) = 0 with v = 21 u: the second one is not in balance.
		{chainOf(20, 0, 1, 0), halvesOf([]api.Frac{frac(1, 999999999), frac(7, 333333333)}, nil, 0), 1},
		{chainOf(20, 0, 1, 0), halvesOf([]api.Frac{frac(1, 999999999), frac(1, 47619047)}, nil, 0), 0},
		{chainOf(20, 0, 1, 0), halvesOf([]api.Frac{frac(47619047, 1), frac(999999987, 1)}, nil, 0), 1},
		{chainOf(20, 0, 1, 0), halvesOf([]api.Frac{frac(47619047, 1), frac(999999988, 1)}, nil, 0), 0},
		{chainOf(1, 1, 20, 1), halvesOf([]api.Frac{frac(999999999, 1000000000), frac(1000000000, 999999999)}, nil, 0), 0},
		{chainOf(20, 1000, 20, -1000, 20, 0), halvesOf([]api.Frac{frac(-1000000000, 999999999), frac(1000000000, 999999997), frac(-999999999, 1000000000)}, nil, 0), 0},
		{chainOf(20, 0, 20, 0), halvesOf([]api.Frac{frac(-1000000000, 1), frac(1000000000, 1)}, nil, 0), 0},
	} {
		node := len(y.h.Lower) - 1
		want, wantError := proofByHand(y.c, node, y.h)
		index, e := hybrid.CheckHalves(y.c, node, y.h)
		mustBe(t, y.h, index, e, want, wantError)
		mustBe(t, y.h, index, e, y.index, api.ErrProof)
	}
}

// P8.6: by hand; all nodes but the last one are in balance, with displacements that are not those of the chain.
func TestBalancedNodes(t *testing.T) {
	random := fixedRandom()
	indexes := map[int]int{}
	for range 3000 {
		c := someChain(random)
		h := api.HybridHalves{}
		below, here := new(big.Rat), big.NewRat(int64(within(random, 1000)), int64(1+random.IntN([]int{30, 1000000}[random.IntN(2)])))
		for node, stiffness := range c.Stiffness {
			if isLarge(here) {
				c = api.HybridChain{Stiffness: c.Stiffness[:node], Forces: c.Forces[:node]}
				break
			}
			h.Lower = append(h.Lower, fracOf(here))
			if node+1 < len(c.Stiffness) {
				// The stiffness above must hold what the one below does, but for the force.
				held := new(big.Rat).Sub(here, below)
				held.Mul(held, big.NewRat(int64(stiffness), 1)).Sub(held, big.NewRat(int64(c.Forces[node]), 1))
				held.Quo(held, big.NewRat(int64(c.Stiffness[node+1]), 1))
				below, here = here, held.Add(held, here)
			}
		}
		node := len(c.Stiffness) - 1
		want, wantError := proofByHand(c, node, h)
		index, e := hybrid.CheckHalves(c, node, h)
		mustBe(t, h, index, e, want, wantError)
		indexes[index]++
		if index < node {
			t.Error(c, h, index)
		}
	}
	if len(indexes) != api.MaxHybridNodes {
		t.Error(indexes)
	}
}

// P8.6: by hand, random parts of all sizes
func TestRandomHalves(t *testing.T) {
	random := fixedRandom()
	part := func() api.Frac {
		den := 1 + random.IntN([]int{2, 30, api.MaxPart}[random.IntN(3)])
		return fracOf(big.NewRat(int64(within(random, api.MaxPart)), int64(den)))
	}
	for range 3000 {
		c := someChain(random)
		node := random.IntN(len(c.Stiffness))
		h := api.HybridHalves{}
		for i, force := range c.Forces {
			if i <= node {
				h.Lower = append(h.Lower, part())
			} else {
				h.Upper, h.Force = append(h.Upper, part()), h.Force+force
			}
		}
		want, wantError := proofByHand(c, node, h)
		index, e := hybrid.CheckHalves(c, node, h)
		mustBe(t, h, index, e, want, wantError)
	}
}

// P8.12: with all forces doubled all displacements are.
func TestDoubledForces(t *testing.T) {
	random := fixedRandom()
	for range 300 {
		c := someChain(random)
		for node := range c.Forces {
			c.Forces[node] /= 2
		}
		doubled := api.HybridChain{Stiffness: c.Stiffness}
		for _, force := range c.Forces {
			doubled.Forces = append(doubled.Forces, 2*force)
		}
		moved, e := hybrid.MovedOf(c)
		twice, twiceError := hybrid.MovedOf(doubled)
		if e != api.OK || twiceError != api.OK {
			continue
		}
		for node := range moved {
			if want := new(big.Rat).Add(ratOf(moved[node]), ratOf(moved[node])); want.Cmp(ratOf(twice[node])) != 0 {
				t.Error(c, moved, twice)
			}
		}
	}
}

// P8.6, example 8
func TestStiffnessOf(t *testing.T) {
	for _, y := range []struct {
		c    api.HybridChain
		want api.Frac
	}{
		{exampleChain(), frac(4, 3)},
		{chainOf(7, 1000), frac(7, 1)},
		{chainOf(20, 0, 20, 0, 20, 0, 20, 0, 20, 0, 20, 0), frac(10, 3)},
		{chainOf(1, 0, 1, 0), frac(1, 2)},
		{chainOf(2, -7, 3, 1, 6, 9), frac(1, 1)},
		{chainOf(2, 0, 3, 0, 5, 0, 7, 1), frac(210, 247)},
	} {
		stiffness, e := hybrid.StiffnessOf(y.c)
		mustBe(t, y.c, stiffness, e, y.want, api.OK)
	}
}

// P8.6, P8.13: by hand; at most the smallest one; and the same in reverse order, whatever the forces are.
func TestSeries(t *testing.T) {
	random := fixedRandom()
	for _, c := range append(goodChains(), largeChain(false)) {
		stiffness, e := hybrid.StiffnessOf(c)
		mustBe(t, c, stiffness, e, seriesByHand(c), api.OK)
	}
	for range 500 {
		c := someChain(random)
		stiffness, e := hybrid.StiffnessOf(c)
		mustBe(t, c, stiffness, e, seriesByHand(c), api.OK)
		if stiffness.Num > slices.Min(c.Stiffness)*stiffness.Den {
			t.Error(c, stiffness)
		}
		for node := range c.Forces {
			c.Forces[node] = within(random, api.MaxHybridForce)
		}
		again, e := hybrid.StiffnessOf(api.HybridChain{Stiffness: backwards(c.Stiffness), Forces: c.Forces})
		mustBe(t, c, again, e, stiffness, api.OK)
	}
}

// seriesByHand returns 1, divided by the displacement of the last node with the force 1.
func seriesByHand(c api.HybridChain) api.Frac {
	forces := make([]int, len(c.Stiffness))
	forces[len(forces)-1] = 1
	moved := movedByHand(api.HybridChain{Stiffness: c.Stiffness, Forces: forces})
	return fracOf(new(big.Rat).Inv(moved[len(moved)-1]))
}
