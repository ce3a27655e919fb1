package modal_test

import (
	"testing"

	"ductility/api"
	"ductility/modal"
)

// P6.1
func TestCheckFrame(t *testing.T) {
	for _, f := range someFrames() {
		i, e := modal.CheckFrame(f)
		mustBe(t, f, i, e, 0, api.OK)
	}
	for _, x := range badFrames() {
		i, e := modal.CheckFrame(x.f)
		mustBe(t, x.name, i, e, x.index, x.want)
	}
}

// P6.1 to P6.3, P6.6: a frame with an error has it in all functions, before the errors of further arguments.
func TestFrameErrors(t *testing.T) {
	for _, x := range badFrames() {
		coefficients, e := modal.PolynomialOf(x.f)
		mustFail(t, x.name, coefficients, e, x.want)
		sum, e := modal.SumOf(x.f)
		mustFail(t, x.name, sum, e, x.want)
		for _, square := range []api.Frac{frac(1, 1), frac(2, 2), frac(101, 1)} {
			count, e := modal.CountBelow(x.f, square)
			mustFail(t, x.name, count, e, x.want)
			isMode, e := modal.IsMode(x.f, square)
			mustFail(t, x.name, isMode, e, x.want)
			shape, sign, e := modal.ShapeAt(x.f, square)
			mustFail(t, x.name, shape, e, x.want)
			mustFail(t, x.name, sign, e, x.want)
		}
		for _, mode := range []int{0, -1, 5} {
			for _, den := range []int{1, 0, 51} {
				r, e := modal.EnclosureOf(x.f, mode, den)
				mustFail(t, x.name, r, e, x.want)
			}
		}
		for _, loads := range [][]int{nil, {1}, make([]int, len(x.f.Masses)), {1001, 1001}} {
			sway, e := modal.SwayOf(x.f, loads)
			mustFail(t, x.name, sway, e, x.want)
		}
		for _, squares := range []api.ModalAfter{{}, exampleAfter(), after(51)} {
			d, e := modal.ExplainedBy(x.f, squares)
			mustFail(t, x.name, d, e, x.want)
			for _, damage := range []api.ModalDamage{{}, {Left: 1}, {Storey: -1}, {Storey: 9, Left: 99}} {
				i, e := modal.CheckDamage(x.f, squares, damage)
				mustFail(t, x.name, i, e, x.want)
			}
		}
	}
}

// P6.1, examples 1 and 8
func TestPolynomial(t *testing.T) {
	for _, x := range []struct {
		f    api.ModalFrame
		want []int
	}{
		{exampleFrame(), []int{2, -4, 1}},
		{frameOf(1, 1, 1, 1), []int{1, -3, 1}},
		{wholeFrame(), []int{6, -7, 1}},
		{tallFrame(), []int{2520, -3198, 727, -50, 1}},
		{frameOf(3, 7), []int{7, -3}},
		{frameOf(2, 1, 4, 3), []int{12, -13, 2}},
		{frameOf(1, 1, 1, 1, 1, 1), []int{1, -6, 5, -1}},
		{stiffFrame(), []int{160000, -80000, 6000, -140, 1}},
		{heavyFrame(), []int{1, -100, 1500, -7000, 10000}},
		{greatFrame(), []int{160000, -800000, 600000, -140000, 10000}},
	} {
		coefficients, e := modal.PolynomialOf(x.f)
		mustBe(t, x.f, coefficients, e, x.want, api.OK)
	}
}

// P6.1: the polynomial is the determinant, which is computed from all permutations here.
func TestPolynomialByHand(t *testing.T) {
	for _, f := range someFrames() {
		coefficients, e := modal.PolynomialOf(f)
		mustBe(t, f, coefficients, e, polynomialByHand(f), api.OK)
	}
}

// P6.1, example 1 and edge cases
func TestSum(t *testing.T) {
	for _, x := range []struct {
		f    api.ModalFrame
		want api.Frac
	}{
		{exampleFrame(), frac(4, 1)},
		{wholeFrame(), frac(7, 1)},
		{frameOf(3, 7), frac(7, 3)},
		{frameOf(2, 20), frac(10, 1)},
		{frameOf(10, 8), frac(4, 5)},
		{frameOf(4, 6, 3, 4), frac(29, 12)}, // 7/4 and 4/6
		{stiffFrame(), frac(140, 1)},
		{heavyFrame(), frac(7, 10)},
		{frameOf(7, 8, 9, 10, 1, 3, 4, 7), frac(8489, 2520)}, // 4/7, 7/8, 11/9 and 7/10
	} {
		sum, e := modal.SumOf(x.f)
		mustBe(t, x.f, sum, e, x.want, api.OK)
	}
}

// P6.1: the sum of all zeros of a polynomial is a quotient of its coefficients.
func TestSumByPolynomial(t *testing.T) {
	for _, f := range someFrames() {
		coefficients := polynomialByHand(f)
		n := len(f.Masses)
		sum, e := modal.SumOf(f)
		mustBe(t, f, sum, e, lowest(-coefficients[n-1], coefficients[n]), api.OK)
	}
}
