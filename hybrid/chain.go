package hybrid

import (
	"slices"

	"ductility/api"
)

// chain is a chain without errors, or one of its halves, and by how much its ground is moved. A half may be empty.
type chain struct {
	api.HybridChain
	ground api.Frac
}

// fixed is the displacement of a ground that is not moved.
func fixed() api.Frac { return api.Frac{Num: 0, Den: 1} }

// chainOf returns a chain, or the error of it.
func chainOf(c api.HybridChain) (chain, api.Errno) {
	if _, e := CheckChain(c); e != api.OK {
		return chain{}, e
	}
	return chain{c, fixed()}, api.OK
}

// nodeError returns the error of a node.
func (c chain) nodeError(node int) api.Errno {
	return when(!areWithin(0, len(c.Stiffness)-1, node), api.ErrMissing)
}

// forceFrom returns the sum of the forces on a node and on all above it.
func (c chain) forceFrom(node int) int {
	sum := 0
	for _, force := range c.Forces[node:] {
		sum += force
	}
	return sum
}

// moved returns the displacements.
func (c chain) moved() []api.Frac {
	moved := make([]api.Frac, len(c.Stiffness))
	below := c.ground
	for node, stiffness := range c.Stiffness {
		// All that is above a stiffness hangs on it.
		below = plus(below, fraction(c.forceFrom(node), stiffness))
		moved[node] = below
	}
	return moved
}

// lowerAt returns the lower half at a node.
func (c chain) lowerAt(node int) chain {
	forces := make([]int, node+1)
	copy(forces, c.Forces)
	forces[node] = c.forceFrom(node)
	return chain{api.HybridChain{Stiffness: c.Stiffness[:node+1], Forces: forces}, c.ground}
}

// upperAt returns the upper half at a node whose displacement is given.
func (c chain) upperAt(node int, moved api.Frac) chain {
	return chain{api.HybridChain{Stiffness: c.Stiffness[node+1:], Forces: c.Forces[node+1:]}, moved}
}

// tension returns the force of the stiffness below a node, for displacements whose parts are at most MaxPart.
func (c chain) tension(node int, moved []api.Frac) mixed {
	if node == len(moved) {
		return mixedOf(0, 1) // nothing hangs on the last node
	}
	below := c.ground
	if node > 0 {
		below = moved[node-1]
	}
	stiffness, here := c.Stiffness[node], moved[node]
	return mixedOf(stiffness*here.Num, here.Den).minus(mixedOf(stiffness*below.Num, below.Den))
}

// checkBalance returns the index of the first node that is not in balance, with ErrProof.
func (c chain) checkBalance(moved []api.Frac) (int, api.Errno) {
	return checkItems(c.Forces, func(node, force int) api.Errno {
		below, above := c.tension(node, moved), c.tension(node+1, moved)
		// Forces are whole: the rests, which may have great parts, need not be subtracted.
		isBalanced := below.rest == above.rest && below.whole-above.whole == force
		return when(!isBalanced, api.ErrProof)
	})
}

// CheckChain returns the error of a chain, with the index of the node.
func CheckChain(c api.HybridChain) (int, api.Errno) {
	nodes := len(c.Stiffness)
	isShapeless := nodes == 0 || len(c.Forces) != nodes
	e := firstOf(when(isShapeless, api.ErrShape), when(nodes > api.MaxHybridNodes, api.ErrLarge))
	if e != api.OK {
		return 0, e
	}
	return checkItems(c.Stiffness, func(node, stiffness int) api.Errno {
		isInside := areWithin(1, api.MaxHybridStiffness, stiffness) && !isBeyond(api.MaxHybridForce, c.Forces[node])
		return when(!isInside, api.ErrRange)
	})
}

// MovedOf returns the displacements of a chain.
func MovedOf(c api.HybridChain) ([]api.Frac, api.Errno) {
	checked, e := chainOf(c)
	if e != api.OK {
		return nil, e
	}
	moved := checked.moved()
	if e = largeError(moved); e != api.OK {
		return nil, e
	}
	return moved, api.OK
}

// HalvesOf returns the halves of a chain at a node.
func HalvesOf(c api.HybridChain, node int) (api.HybridHalves, api.Errno) {
	checked, e := chainOf(c)
	if e = firstOf(e, checked.nodeError(node)); e != api.OK {
		return api.HybridHalves{}, e
	}
	lower := checked.lowerAt(node).moved()
	upper := checked.upperAt(node, lower[node]).moved()
	if e = firstOf(largeError(lower), largeError(upper)); e != api.OK {
		return api.HybridHalves{}, e
	}
	return api.HybridHalves{Lower: lower, Upper: upper, Force: checked.forceFrom(node + 1)}, api.OK
}

// CheckHalves accepts the halves of a chain at a node, or returns the index of the first node with an error.
func CheckHalves(c api.HybridChain, node int, h api.HybridHalves) (int, api.Errno) {
	checked, e := chainOf(c)
	if e = firstOf(e, checked.nodeError(node)); e != api.OK {
		return 0, e
	}
	lowerNodes := node + 1
	if len(h.Lower) != lowerNodes || len(h.Upper) != len(c.Stiffness)-lowerNodes {
		return 0, api.ErrShape
	}
	index, e := checkItems(slices.Concat(h.Lower, h.Upper), func(_ int, moved api.Frac) api.Errno {
		return partsError(moved)
	})
	if e = firstOf(e, when(h.Force != checked.forceFrom(lowerNodes), api.ErrClash)); e != api.OK {
		return index, e
	}
	if index, e = checked.lowerAt(node).checkBalance(h.Lower); e != api.OK {
		return index, e
	}
	if index, e = checked.upperAt(node, h.Lower[node]).checkBalance(h.Upper); e != api.OK {
		return lowerNodes + index, e
	}
	return 0, api.OK
}

// StiffnessOf returns the stiffness of a chain as a whole.
func StiffnessOf(c api.HybridChain) (api.Frac, api.Errno) {
	checked, e := chainOf(c)
	if e != api.OK {
		return api.Frac{}, e
	}
	last := len(c.Stiffness) - 1
	checked.Forces = make([]int, last+1)
	checked.Forces[last] = 1
	// Above 0, as all stiffnesses are.
	moved := checked.moved()[last]
	return api.Frac{Num: moved.Den, Den: moved.Num}, api.OK
}
