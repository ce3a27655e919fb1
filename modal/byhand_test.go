package modal_test

import (
	"math/big"

	"ductility/api"
)

// forcesOf returns the forces for displacements, as they are defined.
func forcesOf(f api.ModalFrame, u []*big.Int) []*big.Int {
	stretch := func(i int) *big.Int { // of the spring below the storey i, times its stiffness
		below := new(big.Int)
		if i > 0 {
			below = u[i-1]
		}
		x := new(big.Int).Sub(u[i], below)
		return x.Mul(x, big.NewInt(int64(f.Springs[i])))
	}
	var forces []*big.Int
	for i := range u {
		force := stretch(i)
		if i+1 < len(u) {
			force.Sub(force, stretch(i+1))
		}
		forces = append(forces, force)
	}
	return forces
}

// bigs returns numbers as great ones.
func bigs(numbers ...int) []*big.Int {
	var l []*big.Int
	for _, n := range numbers {
		l = append(l, big.NewInt(int64(n)))
	}
	return l
}

// unit returns a displacement of 1 of one storey.
func unit(storeys, storey int) []int {
	u := make([]int, storeys)
	u[storey] = 1
	return u
}

// matrixOf returns the matrix of the forces of a frame, column by column.
func matrixOf(f api.ModalFrame) [][]int {
	var columns [][]int
	for i := range f.Masses {
		var column []int
		for _, force := range forcesOf(f, bigs(unit(len(f.Masses), i)...)) {
			column = append(column, int(force.Int64()))
		}
		columns = append(columns, column)
	}
	return columns
}

// permutations returns all permutations of so many numbers, each with its sign.
func permutations(count int) map[[4]int]int {
	all := map[[4]int]int{{}: 1}
	for n := 1; n < count; n++ {
		next := map[[4]int]int{}
		for p, sign := range all {
			p[n] = n
			next[p] = sign
			for k := range n {
				q := p
				q[k], q[n] = q[n], q[k]
				next[q] = -sign
			}
		}
		all = next
	}
	return all
}

// polynomialByHand returns the polynomial of a frame from all permutations.
func polynomialByHand(f api.ModalFrame) []int {
	n := len(f.Masses)
	columns := matrixOf(f)
	sum := make([]int, n+1)
	for p, sign := range permutations(n) {
		product := make([]int, n+1)
		product[0] = sign
		for i := range n {
			slope := 0
			if p[i] == i {
				slope = -f.Masses[i]
			}
			for k := n; k >= 0; k-- {
				product[k] *= columns[i][p[i]]
				if k > 0 {
					product[k] += slope * product[k-1]
				}
			}
		}
		for k, c := range product {
			sum[k] += c
		}
	}
	return sum
}

// valueByHand returns the polynomial of a frame at a square, times a number above 0.
func valueByHand(f api.ModalFrame, num, den int) *big.Int {
	sum, power := new(big.Int), big.NewInt(1)
	for _, c := range polynomialByHand(f) {
		sum.Mul(sum, big.NewInt(int64(den)))
		sum.Add(sum, new(big.Int).Mul(power, big.NewInt(int64(c))))
		power.Mul(power, big.NewInt(int64(num)))
	}
	return sum
}

// countByHand returns how many modes are below a square, and how many are at it. The polynomial is moved there; as all
// its zeros are real, the changes of sign in its coefficients count those above (the rule of Descartes).
func countByHand(f api.ModalFrame, num, den int) (int, int) {
	coefficients := polynomialByHand(f)
	n := len(coefficients) - 1
	moved := make([]*big.Int, n+1)
	for i := range moved {
		moved[i] = new(big.Int)
	}
	for k := n; k >= 0; k-- { // Horner's rule with num plus den y
		scale := new(big.Int).Exp(big.NewInt(int64(den)), big.NewInt(int64(n-k)), nil)
		for i := n; i >= 0; i-- {
			moved[i].Mul(moved[i], big.NewInt(int64(num)))
			if i > 0 {
				moved[i].Add(moved[i], new(big.Int).Mul(moved[i-1], big.NewInt(int64(den))))
			}
		}
		moved[0].Add(moved[0], scale.Mul(scale, big.NewInt(int64(coefficients[k]))))
	}
	at := 0
	for moved[at].Sign() == 0 {
		at++
	}
	above, last := 0, 0
	for _, c := range moved {
		if c.Sign()*last < 0 {
			above++
		}
		if c.Sign() != 0 {
			last = c.Sign()
		}
	}
	return n - at - above, at
}
