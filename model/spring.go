package model

import (
	"iter"

	"ductility/api"
)

// element is an element of a spring, what it is like, and where the spring is.
type element struct {
	api.ModelElement
	api.ModelSlip
	at int
}

// holdError returns the error of what a valid element is like.
func (x element) holdError() api.Errno {
	isMalformed := x.Broken && !x.Brittle || x.Brittle && x.Slip != 0
	isTorn := !x.Broken && isBeyond(x.Yield, x.stretch())
	return firstOf(placeError(x.Slip), when(isMalformed, api.ErrForm), when(isTorn, api.ErrBreak))
}

// stiffness returns the force for each unit of stretch, broken or not.
func (x element) stiffness() int {
	return x.Stiffness
}

// stretch returns the stretch.
func (x element) stretch() int {
	return x.at - x.Slip
}

// force returns the force.
func (x element) force() int {
	if x.Broken {
		return 0
	}
	return x.Stiffness * x.stretch()
}

// energy returns the doubled energy.
func (x element) energy() int {
	return x.force() * x.stretch()
}

// movedTo returns the element after a move.
func (x element) movedTo(at int) element {
	x.at = at
	stretch := x.stretch()
	switch {
	case x.Broken || !isBeyond(x.Yield, stretch):
	case x.Brittle:
		x.ModelSlip = api.ModelSlip{Broken: true}
	case stretch > 0:
		x.Slip = at - x.Yield
	default:
		x.Slip = at + x.Yield
	}
	return x
}

// workTo returns the doubled work of a move.
func (x element) workTo(at int) int {
	if x.Broken {
		return 0
	}
	stretch := sizeOf(at - x.Slip)
	held := min(stretch, x.Yield)
	work := x.Stiffness*held*held - x.energy()
	if x.Brittle {
		return work
	}
	// Along the rest of the way it slips with one force.
	return work + 2*x.Stiffness*x.Yield*(stretch-held)
}

// lossTo returns the doubled loss of a move.
func (x element) lossTo(at int) int {
	after := x.movedTo(at)
	if after.Broken && !x.Broken {
		return x.Stiffness * x.Yield * x.Yield
	}
	return 2 * x.Stiffness * x.Yield * sizeOf(after.Slip-x.Slip)
}

// spring is elements in a hold, both without errors.
type spring struct {
	list []api.ModelElement
	api.ModelHold
}

// springOf returns a spring in a hold, or the first error of both and of further arguments.
func springOf(l []api.ModelElement, h api.ModelHold, further ...api.Errno) (spring, api.Errno) {
	_, e := CheckHold(l, h)
	if e = firstOf(e, firstOf(further...)); e != api.OK {
		return spring{}, e
	}
	return spring{l, h}, api.OK
}

// begin returns a spring without errors at the beginning.
func begin(l []api.ModelElement) spring {
	return spring{l, api.ModelHold{Slips: make([]api.ModelSlip, len(l))}}
}

// elements yields all elements.
func (s spring) elements() iter.Seq[element] {
	return func(yield func(element) bool) {
		for i, slip := range s.Slips {
			if !yield(element{s.list[i], slip, s.At}) {
				return
			}
		}
	}
}

// sumOf returns the sum of a property of all items.
func sumOf[T any](items iter.Seq[T], property func(T) int) int {
	sum := 0
	for item := range items {
		sum += property(item)
	}
	return sum
}

// force returns the force of a spring.
func (s spring) force() int {
	return sumOf(s.elements(), element.force)
}

// movedTo returns the spring after a move.
func (s spring) movedTo(at int) spring {
	moved := spring{s.list, api.ModelHold{At: at}}
	for x := range s.elements() {
		moved.Slips = append(moved.Slips, x.movedTo(at).ModelSlip)
	}
	return moved
}

// CheckSpring returns the error of a spring, with the index of its element.
func CheckSpring(l []api.ModelElement) (int, api.Errno) {
	if e := countError(len(l), api.MaxModelElements); e != api.OK {
		return 0, e
	}
	return checkItems(l, func(_ int, x api.ModelElement) api.Errno {
		return when(!areWithin(1, api.MaxModelStiffness, x.Stiffness, x.Yield), api.ErrRange)
	})
}

// CheckHold returns the error of a spring and its hold, with the index of the element.
func CheckHold(l []api.ModelElement, h api.ModelHold) (int, api.Errno) {
	if i, e := CheckSpring(l); e != api.OK {
		return i, e
	}
	if e := firstOf(placeError(h.At), when(len(h.Slips) != len(l), api.ErrShape)); e != api.OK {
		return 0, e
	}
	return checkItems(h.Slips, func(i int, slip api.ModelSlip) api.Errno {
		return element{l[i], slip, h.At}.holdError()
	})
}

// ForceOf returns the force of a spring.
func ForceOf(l []api.ModelElement, h api.ModelHold) (int, api.Errno) {
	s, e := springOf(l, h)
	return s.force(), e
}

// MovedTo returns the hold of a spring after a move.
func MovedTo(l []api.ModelElement, h api.ModelHold, at int) (api.ModelHold, api.Errno) {
	s, e := springOf(l, h, placeError(at))
	if e != api.OK {
		return api.ModelHold{}, e
	}
	return s.movedTo(at).ModelHold, api.OK
}

// EnergyOf returns the doubled energy in a hold.
func EnergyOf(l []api.ModelElement, h api.ModelHold) (int, api.Errno) {
	s, e := springOf(l, h)
	return sumOf(s.elements(), element.energy), e
}

// WorkTo returns the doubled work and the doubled loss of a move.
func WorkTo(l []api.ModelElement, h api.ModelHold, at int) (api.ModelWork, api.Errno) {
	s, e := springOf(l, h, placeError(at))
	return api.ModelWork{
		Work: sumOf(s.elements(), func(x element) int { return x.workTo(at) }),
		Loss: sumOf(s.elements(), func(x element) int { return x.lossTo(at) }),
	}, e
}

// BackboneAt returns the force of a spring that is moved to a position from the beginning.
func BackboneAt(l []api.ModelElement, at int) (int, api.Errno) {
	_, e := CheckSpring(l)
	if e = firstOf(e, placeError(at)); e != api.OK {
		return 0, e
	}
	return begin(l).movedTo(at).force(), api.OK
}
