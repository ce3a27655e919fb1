package modal_test

import (
	"math"
	"math/big"
	"slices"
	"testing"

	"ductility/api"
	"ductility/modal"
)

// shapeOf returns displacements that are divided by a number.
func shapeOf(den int, parts ...int) api.ModalShape { return api.ModalShape{Den: den, Parts: parts} }

// isLowest tells whether a shape is in lowest terms.
func isLowest(x api.ModalShape) bool {
	divisor := big.NewInt(int64(x.Den))
	for _, part := range x.Parts {
		divisor.GCD(nil, nil, divisor, new(big.Int).Abs(big.NewInt(int64(part))))
	}
	return x.Den > 0 && divisor.Cmp(big.NewInt(1)) == 0
}

// P6.3, example 4 and edge cases
func TestSway(t *testing.T) {
	for _, x := range []struct {
		f     api.ModalFrame
		loads []int
		want  api.ModalShape
	}{
		{exampleFrame(), []int{0, 1}, shapeOf(2, 1, 3)},
		{exampleFrame(), []int{1, 0}, shapeOf(2, 1, 1)},
		{exampleFrame(), []int{0, 0}, shapeOf(1, 0, 0)},
		{exampleFrame(), []int{2, 0}, shapeOf(1, 1, 1)},
		{exampleFrame(), []int{1, -1}, shapeOf(1, 0, -1)},
		{exampleFrame(), []int{-1000, 1000}, shapeOf(1, 0, 1000)},
		{greatFrame(), []int{0, 0, 0, 0}, shapeOf(1, 0, 0, 0, 0)},
		{greatFrame(), []int{1000, 1000, 1000, 1000}, shapeOf(1, 200, 350, 450, 500)},
		{heavyFrame(), []int{-1000, -1000, -1000, -1000}, shapeOf(1, -4000, -7000, -9000, -10000)},
		{frameOf(3, 7), []int{5}, shapeOf(7, 5)},
		{frameOf(3, 7), []int{-14}, shapeOf(1, -2)},
		{frameOf(1, 1, 4, 6), []int{0, 1}, shapeOf(12, 3, 5)},
		{frameOf(1, 1, 1, 1, 20, 19, 17, 13), []int{1000, 999, 998, 997}, shapeOf(41990, 8385403, 15002143, 19929793, 23150103)},
	} {
		sway, e := modal.SwayOf(x.f, x.loads)
		mustBe(t, x, sway, e, x.want, api.OK)
	}
}

// P6.3
func TestSwayErrors(t *testing.T) {
	for _, loads := range [][]int{nil, {}, {1001}, {1}, {1001, 0, 0}, {1, 2, 3}} {
		sway, e := modal.SwayOf(exampleFrame(), loads)
		mustFail(t, loads, sway, e, api.ErrShape)
	}
	for _, loads := range [][]int{{1001, 0}, {0, 1001}, {-1001, 0}, {0, -1001}, {math.MaxInt, 0}, {0, math.MinInt}} {
		sway, e := modal.SwayOf(exampleFrame(), loads)
		mustFail(t, loads, sway, e, api.ErrRange)
	}
	sway, e := modal.SwayOf(exampleFrame(), []int{1000, -1000})
	mustBe(t, "the greatest", sway, e, shapeOf(1, 0, -1000), api.OK)
}

// someLoads returns loads on all storeys of a frame.
func someLoads(f api.ModalFrame) []int {
	random := fixedRandom()
	var loads []int
	for range f.Masses {
		loads = append(loads, within(random, api.MaxModalLoad/2))
	}
	return loads
}

// P6.11: loads are the forces of their sway.
func TestLoadsAreForces(t *testing.T) {
	for _, f := range someFrames() {
		loads := someLoads(f)
		sway, e := modal.SwayOf(f, loads)
		if e != api.OK || !isLowest(sway) || len(sway.Parts) != len(loads) {
			t.Fatal(f, loads, sway, e)
		}
		for i, force := range forcesOf(f, bigs(sway.Parts...)) {
			if force.Cmp(big.NewInt(int64(loads[i]*sway.Den))) != 0 {
				t.Fatal(f, loads, sway, i, force)
			}
		}
	}
}

// P6.11: the sway of a sum is the sum of both.
func TestSwayOfSum(t *testing.T) {
	for _, f := range someFrames() {
		first := someLoads(f)
		second, sum := slices.Clone(first), slices.Clone(first)
		slices.Reverse(second)
		for i, load := range second {
			sum[i] += load
		}
		a, _ := modal.SwayOf(f, first)
		b, _ := modal.SwayOf(f, second)
		c, e := modal.SwayOf(f, sum)
		for i := range sum {
			if e != api.OK || (a.Parts[i]*b.Den+b.Parts[i]*a.Den)*c.Den != c.Parts[i]*a.Den*b.Den {
				t.Fatal(f, first, second, a, b, c, e)
			}
		}
	}
}

// P6.11: the storey i sways under a load of 1 at the storey j as j does under one at i.
func TestSwayIsMutual(t *testing.T) {
	for _, f := range someFrames() {
		for i := range f.Masses {
			for j := range f.Masses {
				a, _ := modal.SwayOf(f, unit(len(f.Masses), i))
				b, e := modal.SwayOf(f, unit(len(f.Masses), j))
				if e != api.OK || a.Parts[j]*b.Den != b.Parts[i]*a.Den || a.Parts[j] < 1 {
					t.Fatal(f, i, j, a, b, e)
				}
			}
		}
	}
}

// P6.3, example 5 and edge cases
func TestShapes(t *testing.T) {
	for _, x := range []struct {
		f      api.ModalFrame
		square api.Frac
		want   api.ModalShape
		sign   int
	}{
		{exampleFrame(), frac(1, 1), shapeOf(1, 1, 2), -1},
		{exampleFrame(), frac(4, 1), shapeOf(1, 1, -1), 1},
		{exampleFrame(), frac(0, 1), shapeOf(1, 1, 3), 1},
		{exampleFrame(), frac(3, 1), shapeOf(1, 1, 0), -1},
		{exampleFrame(), frac(1, 2), shapeOf(2, 2, 5), 1},
		{exampleFrame(), frac(-1, 3), shapeOf(3, 3, 10), 1},
		{wholeFrame(), frac(1, 1), shapeOf(1, 1, 2), 0},
		{wholeFrame(), frac(6, 1), shapeOf(2, 2, -1), 0},
		{wholeFrame(), frac(1, 100), shapeOf(200, 200, 499), 1},
		{frameOf(3, 7), frac(2, 1), shapeOf(1, 1), 1},
		{frameOf(3, 7), frac(7, 3), shapeOf(1, 1), 0},
		{frameOf(3, 7), frac(5, 2), shapeOf(1, 1), -1},
		{frameOf(3, 7), frac(99, 100), shapeOf(1, 1), 1},
		{frameOf(3, 7), frac(-100, 99), shapeOf(1, 1), 1},
		{frameOf(1, 3, 1, 1, 1, 2), frac(2, 1), shapeOf(2, 2, 0, -1), 0},
		{tallFrame(), frac(1, 1), shapeOf(1, 1, 2, 3, 4), 0},
		{tallFrame(), frac(28, 1), shapeOf(14, 14, -14, 6, -1), 0},
		// No limit applies to the parts of a shape.
		{stiffFrame(), frac(1, 97), shapeOf(7301384000, 7301384000, 14599004400, 21889099540, 29167911639), 1},
	} {
		shape, sign, e := modal.ShapeAt(x.f, x.square)
		mustBe(t, x, shape, e, x.want, api.OK)
		mustBe(t, x, sign, e, x.sign, api.OK)
	}
}

// P6.3
func TestShapeErrors(t *testing.T) {
	for _, x := range badSquares() {
		shape, sign, e := modal.ShapeAt(exampleFrame(), x.square)
		mustFail(t, x.square, shape, e, x.want)
		mustFail(t, x.square, sign, e, x.want)
	}
}

// P6.3: a shape begins with 1, its forces are those of the square, and the sign of what is missing is that of its definition.
func TestShapesByHand(t *testing.T) {
	for _, f := range someFrames() {
		for _, square := range squaresOf(f) {
			shape, sign, e := modal.ShapeAt(f, square)
			if e != api.OK || !isLowest(shape) || len(shape.Parts) != len(f.Masses) || shape.Parts[0] != shape.Den {
				t.Fatal(f, square, shape, sign, e)
			}
			for i, force := range forcesOf(f, bigs(shape.Parts...)) {
				inertia := big.NewInt(int64(square.Num * f.Masses[i]))
				inertia.Mul(inertia, big.NewInt(int64(shape.Parts[i])))
				missing := force.Mul(force, big.NewInt(int64(square.Den))).Cmp(inertia)
				isTop := i+1 == len(f.Masses)
				if !isTop && missing != 0 || isTop && missing != sign {
					t.Fatal(f, square, shape, sign, i, missing)
				}
			}
		}
	}
}

// P6.3, P6.10: at a square that belongs to the mode i the shape has i nodes, and nothing is missing.
func TestNodesOfModes(t *testing.T) {
	modes := map[int]int{}
	for _, f := range someFrames() {
		for _, square := range squaresOf(f) {
			shape, sign, e := modal.ShapeAt(f, square)
			below, at := countByHand(f, square.Num, square.Den)
			if e != api.OK || (sign == 0) != (at == 1) {
				t.Fatal(f, square, sign, at, e)
			}
			if at == 1 {
				nodes, e := modal.NodesOf(shape.Parts)
				mustBe(t, []any{f, square}, nodes, e, below, api.OK)
				modes[below]++
			}
		}
	}
	for i := range api.MaxModalStoreys {
		if modes[i] == 0 {
			t.Error(modes)
		}
	}
}

// P6.3
func TestNodes(t *testing.T) {
	many := slices.Repeat([]int{1, -1}, 30)
	for _, x := range []struct {
		parts []int
		want  int
		e     api.Errno
	}{
		{nil, 0, api.OK},
		{[]int{}, 0, api.OK},
		{[]int{0}, 0, api.OK},
		{[]int{5}, 0, api.OK},
		{[]int{-5, -1, -9}, 0, api.OK},
		{[]int{1, -1}, 1, api.OK},
		{[]int{-1, 1, 1, -2}, 2, api.OK},
		{[]int{1, 0, 1}, 0, api.OK},
		{[]int{1, 0, -1}, 1, api.OK},
		{[]int{0, -1, 0, 0, -3, 0, 2, 0}, 1, api.OK},
		{[]int{0, 0, 0}, 0, api.OK},
		{[]int{1, 0}, 0, api.OK},
		{[]int{0, 1}, 0, api.OK},
		{[]int{math.MinInt, math.MaxInt, math.MinInt, 0, math.MinInt}, 2, api.OK},
		{many, 59, api.OK},
		{append(slices.Clone(many), 0), 0, api.ErrLarge},
		{make([]int, 61), 0, api.ErrLarge},
		{make([]int, 60), 0, api.OK},
	} {
		nodes, e := modal.NodesOf(x.parts)
		mustBe(t, x.parts, nodes, e, x.want, x.e)
	}
}
