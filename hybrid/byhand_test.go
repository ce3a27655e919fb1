package hybrid_test

import (
	"math/big"
	"slices"
	"strconv"
	"strings"

	"ductility/api"
)

// nextByHand returns the next displacement after displacements of which the newest one is the last one; before the first one all are 0.
func nextByHand(x api.HybridTest, past []int, force int) int {
	at := func(ago int) int64 {
		if ago >= len(past) {
			return 0
		}
		return int64(past[len(past)-1-ago])
	}
	where := at(x.Delay)
	if x.Compensates {
		where += int64(x.Delay) * (at(x.Delay) - at(x.Delay+1))
	}
	rest := big.NewInt(int64(force))
	for _, part := range [][2]int64{{int64(x.Damping), at(0) - at(1)}, {int64(x.Computed), at(0)}, {int64(x.Shaken), where}} {
		rest.Sub(rest, new(big.Int).Mul(big.NewInt(part[0]), big.NewInt(part[1])))
	}
	// Div rounds down, as Mass is above 0.
	return int(2*at(0)-at(1)) + int(rest.Div(rest, big.NewInt(int64(x.Mass))).Int64())
}

// isOut tells whether a displacement leaves the bound.
func isOut(x api.HybridTest, displacement int) bool {
	return displacement > x.Bound || -displacement > x.Bound
}

// runByHand returns the run under forces.
func runByHand(x api.HybridTest, forces []int) []int {
	run := []int{0}
	for _, force := range forces {
		if isOut(x, run[len(run)-1]) {
			break
		}
		run = append(run, nextByHand(x, run, force))
	}
	return run
}

// backwards returns a list backwards.
func backwards(l []int) []int {
	l = slices.Clone(l)
	slices.Reverse(l)
	return l
}

// stateByHand returns the state at the end of a run.
func stateByHand(x api.HybridTest, run []int) []int {
	return backwards(append(make([]int, x.Delay+2), run...))[:x.Delay+2]
}

// keyOf returns a string that only one list has.
func keyOf(l []int) string {
	var words []string
	for _, n := range l {
		words = append(words, strconv.Itoa(n))
	}
	return strings.Join(words, " ")
}

// permitted returns the permitted forces.
func permitted(x api.HybridTest) []int {
	var l []int
	for force := x.Forces.Lo; force <= x.Forces.Hi; force++ {
		l = append(l, force)
	}
	return l
}

// reachedByHand returns the reached states, in order, and whether none of them has a next one that leaves the bound.
func reachedByHand(x api.HybridTest) ([][]int, bool) {
	holds := true
	open := [][]int{make([]int, x.Delay+2)}
	known := map[string][]int{keyOf(open[0]): open[0]}
	for len(open) > 0 {
		s := open[len(open)-1]
		open = open[:len(open)-1]
		for _, force := range permitted(x) {
			past := backwards(s)
			next := nextByHand(x, past, force)
			if isOut(x, next) {
				holds = false
				continue
			}
			further := stateByHand(x, append(past, next))
			if known[keyOf(further)] == nil {
				known[keyOf(further)] = further
				open = append(open, further)
			}
		}
	}
	var l [][]int
	for _, s := range known {
		l = append(l, s)
	}
	slices.SortFunc(l, slices.Compare)
	return l, holds
}

// brokenByHand returns the forces that break a test, by the lexicographically first lists of each length, for at most so many forces.
func brokenByHand(x api.HybridTest, most int) []int {
	type way struct{ s, forces []int }
	ways := map[string]way{"": {make([]int, x.Delay+2), nil}}
	for range most {
		var best []int
		further := map[string]way{}
		for _, w := range ways {
			for _, force := range permitted(x) {
				forces := append(slices.Clone(w.forces), force)
				past := backwards(w.s)
				next := nextByHand(x, past, force)
				if isOut(x, next) {
					if best == nil || slices.Compare(forces, best) < 0 {
						best = forces
					}
					continue
				}
				s := stateByHand(x, append(past, next))
				known, isKnown := further[keyOf(s)]
				if !isKnown || slices.Compare(forces, known.forces) < 0 {
					further[keyOf(s)] = way{s, forces}
				}
			}
		}
		if best != nil {
			return best
		}
		ways = further
	}
	return nil
}

// isBalanced tells whether a node of a chain on a ground is in balance.
func isBalanced(stiffness, forces []int, ground api.Frac, moved []api.Frac, node int) bool {
	times := func(stiffness int, a, b api.Frac) *big.Rat {
		way := new(big.Rat).Sub(ratOf(a), ratOf(b))
		return way.Mul(way, big.NewRat(int64(stiffness), 1))
	}
	below := ground
	if node > 0 {
		below = moved[node-1]
	}
	force := times(stiffness[node], moved[node], below)
	if node+1 < len(moved) {
		force.Sub(force, times(stiffness[node+1], moved[node+1], moved[node]))
	}
	return force.Cmp(big.NewRat(int64(forces[node]), 1)) == 0
}

// movedByHand returns the displacements of a chain, by elimination from the last node on: the node k has the displacement a[k] times that of the node below, plus b[k].
func movedByHand(c api.HybridChain) []*big.Rat {
	n := len(c.Stiffness)
	whole := func(i int) *big.Rat { return big.NewRat(int64(i), 1) }
	a, b := make([]*big.Rat, n), make([]*big.Rat, n)
	for k := n - 1; k >= 0; k-- {
		// f = s (u - v) - t (a u + b - u), with v below: u (s + t - t a) = s v + f + t b
		factor, rest := whole(c.Stiffness[k]), whole(c.Forces[k])
		if k+1 < n {
			above := whole(c.Stiffness[k+1])
			factor.Add(factor, new(big.Rat).Sub(above, new(big.Rat).Mul(above, a[k+1])))
			rest.Add(rest, new(big.Rat).Mul(above, b[k+1]))
		}
		a[k] = new(big.Rat).Quo(whole(c.Stiffness[k]), factor)
		b[k] = new(big.Rat).Quo(rest, factor)
	}
	var moved []*big.Rat
	below := new(big.Rat)
	for k := range n {
		u := new(big.Rat).Mul(a[k], below)
		below = u.Add(u, b[k])
		moved = append(moved, below)
	}
	return moved
}

// isLarge tells whether a fraction has a part greater than MaxPart.
func isLarge(x *big.Rat) bool {
	most := big.NewInt(api.MaxPart)
	return x.Num().CmpAbs(most) > 0 || x.Denom().Cmp(most) > 0
}
