package model

import (
	"iter"

	"ductility/api"
)

// swing is a floor in a step: the push on it, what this leaves when it is divided by the mass, the acceleration of the
// ground, and the displacements one step before, now, and after the step.
type swing struct {
	mass, push, rest, ground, before, now, next int
}

// swings yields all floors in a step.
func (m moment) swings(ground int) iter.Seq[swing] {
	return func(yield func(swing) bool) {
		for i, floor := range m.Floors {
			before, now := m.Before[i], m.Now[i]
			push := m.force(i+1) - m.force(i)
			quotient, rest := divided(push, floor.Mass)
			next := 2*now - before + quotient - ground
			if !yield(swing{floor.Mass, push, rest, ground, before, now, next}) {
				return
			}
		}
	}
}

// way returns the change of the displacement before the step and in it together.
func (x swing) way() int {
	return x.next - x.before
}

// kinetic returns the share of the floor in the change of the doubled kinetic energy.
func (x swing) kinetic() int {
	last, change := x.now-x.before, x.next-x.now
	return x.mass * (change*change - last*last)
}

// fromSprings returns the share of the floor in what the springs gave.
func (x swing) fromSprings() int {
	return x.push * x.way()
}

// fromGround returns the share of the floor in what the ground gave.
func (x swing) fromGround() int {
	return -x.mass * x.ground * x.way()
}

// rounded returns the share of the floor in what rounding took.
func (x swing) rounded() int {
	return x.rest * x.way()
}

// BalanceOf returns the balance of a step, whether the frame collapses or not.
func BalanceOf(f api.ModelFrame, s api.ModelState, ground int) (api.ModelBalance, api.Errno) {
	m, e := momentOf(f, s, groundError(ground))
	swings := m.swings(ground)
	return api.ModelBalance{
		Kinetic: sumOf(swings, swing.kinetic),
		Springs: sumOf(swings, swing.fromSprings),
		Ground:  sumOf(swings, swing.fromGround),
		Rest:    sumOf(swings, swing.rounded),
	}, e
}
