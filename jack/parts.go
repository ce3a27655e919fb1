package jack

import "ductility/api"

// parts is six numbers: those of a pose, a speed, a direction, a wrench or its multipliers.
type parts api.JackWay

// unit returns the direction of one part alone.
func unit(part int) parts {
	var x parts
	x[part] = 1
	return x
}

// plus returns the sum, part by part.
func (x parts) plus(y parts) parts {
	for i := range x {
		x[i] += y[i]
	}
	return x
}

// times returns the parts multiplied by a number.
func (x parts) times(n int) parts {
	for i := range x {
		x[i] *= n
	}
	return x
}

// sizes returns the size of each part.
func (x parts) sizes() parts {
	for i := range x {
		x[i] = max(x[i], -x[i])
	}
	return x
}

// along returns the sum of all products with the parts of a direction.
func (x parts) along(direction parts) int {
	sum := 0
	for i, n := range x {
		sum += n * direction[i]
	}
	return sum
}

// lengths is one number for each jack of a rig, an extension or a force, and 0 for those that the rig does not have.
type lengths [api.MaxJackJacks]int

// lengthsOf returns a list of at most as many numbers as lengths.
func lengthsOf(list []int) lengths {
	var l lengths
	copy(l[:], list)
	return l
}

// list returns the numbers of so many jacks.
func (l lengths) list(count int) []int {
	return append([]int(nil), l[:count]...)
}

// times returns the numbers multiplied by one.
func (l lengths) times(n int) lengths {
	for i := range l {
		l[i] *= n
	}
	return l
}

// minus returns the difference, jack by jack.
func (l lengths) minus(other lengths) lengths {
	for i := range l {
		l[i] -= other[i]
	}
	return l
}

// along returns the sum of all products with other numbers.
func (l lengths) along(other lengths) int {
	sum := 0
	for i, n := range l {
		sum += n * other[i]
	}
	return sum
}
