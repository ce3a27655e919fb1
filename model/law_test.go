package model_test

import (
	"math"
	"slices"
	"testing"

	"ductility/api"
	"ductility/model"
)

// exampleQuantities returns the quantities of the example 2.
func exampleQuantities() [][3]int { return [][3]int{{0, 0, 1}, {-1, 2, 1}, {1, -2, 0}} }

// lawOf returns a law of the quantities of the example 2 with terms.
func lawOf(terms ...[]int) api.ModelLaw {
	return api.ModelLaw{Quantities: exampleQuantities(), Terms: terms}
}

// P5.2, example 2
func TestLaws(t *testing.T) {
	most := slices.Repeat([][3]int{{4, -4, 4}}, 8)
	for _, x := range []struct {
		name  string
		l     api.ModelLaw
		index int
		want  api.Errno
	}{
		{"example", lawOf([]int{1, 0, 0}, []int{0, 1, 1}), 0, api.OK},
		{"example, wrong", lawOf([]int{1, 0, 0}, []int{0, 1, 0}), 1, api.ErrClash},
		{"one term", lawOf([]int{4, -4, 3}), 0, api.OK},
		{"eight terms", lawOf(slices.Repeat([][]int{{4, -4, 4}}, 8)...), 0, api.OK},
		{"three terms", lawOf([]int{0, -1, 0}, []int{-1, 0, 1}, []int{-2, 1, 2}), 0, api.OK},
		{"the last term", lawOf([]int{1, 0, 0}, []int{0, 1, 1}, []int{1, 0, 0}, []int{1, 0, 1}), 3, api.ErrClash},
		{"the first of two", lawOf([]int{1, 0, 0}, []int{0, 1, 1}, []int{0, 0, 1}, []int{0, 1, 1}, []int{0, 0, 1}), 2, api.ErrClash},
		{"only time", api.ModelLaw{Quantities: [][3]int{{0, 1, 0}}, Terms: [][]int{{1}, {2}}}, 1, api.ErrClash},
		{"no quantities", api.ModelLaw{Terms: [][]int{{}, nil}}, 0, api.OK},
		{"eight quantities", api.ModelLaw{Quantities: most, Terms: [][]int{{4, 4, 4, 4, 4, 4, 4, 4}, {4, 4, 4, 4, 4, 4, 4, -4}}}, 1, api.ErrClash},
		{"nothing", api.ModelLaw{}, 0, api.ErrShape},
		{"nine quantities", api.ModelLaw{Quantities: append(most, [3]int{5})}, 0, api.ErrLarge},
		{"nine quantities, all too great", api.ModelLaw{Quantities: slices.Repeat([][3]int{{5}}, 9)}, 0, api.ErrLarge},
		{"no terms", lawOf(), 0, api.ErrShape},
		{"nine terms", lawOf(make([][]int, 9)...), 0, api.ErrLarge},
		{"too few powers", lawOf([]int{1, 0, 0}, []int{5, 5}), 1, api.ErrShape},
		{"too many powers", lawOf([]int{1, 0, 0, 5}), 0, api.ErrShape},
		{"no powers", lawOf([]int{1, 0, 0}, []int{0, 1, 1}, nil), 2, api.ErrShape},
		{"powers without quantities", api.ModelLaw{Terms: [][]int{{}, {0}}}, 1, api.ErrShape},
		{"a power above", lawOf([]int{1, 0, 0}, []int{0, 5, 0}, nil), 1, api.ErrRange},
		{"a power below", lawOf([]int{-5, 0, 0}, nil), 0, api.ErrRange},
		{"the greatest power", lawOf([]int{0, 0, math.MaxInt}), 0, api.ErrRange},
		{"the smallest power", lawOf([]int{0, math.MinInt, 0}), 0, api.ErrRange},
		{"a shape before a range", lawOf([]int{1, 0}, []int{5, 0, 0}), 0, api.ErrShape},
		{"a wrong term before a shape", lawOf([]int{1, 0, 0}, []int{0, 1, 0}, nil), 2, api.ErrShape},
		{"a wrong term before a range", lawOf([]int{1, 0, 0}, []int{0, 1, 0}, []int{5, 0, 0}), 2, api.ErrRange},
	} {
		if i, e := model.CheckLaw(x.l); i != x.index || e != x.want {
			t.Error(x.name, i, e)
		}
	}
}

// P5.2
func TestLawQuantityErrors(t *testing.T) {
	for _, quantity := range badQuantities() {
		for index := range 3 {
			quantities := exampleQuantities()
			for i := index; i < len(quantities); i++ {
				quantities[i] = quantity
			}
			if i, e := model.CheckLaw(api.ModelLaw{Quantities: quantities}); i != index || e != api.ErrRange {
				t.Error("CheckLaw", quantities, i, e)
			}
			if n, e := model.RankOf(quantities); n != 0 || e != api.ErrRange {
				t.Error("RankOf", quantities, n, e)
			}
		}
	}
}

// P5.2, example 2
func TestRank(t *testing.T) {
	for _, x := range []struct {
		name       string
		quantities [][3]int
		want       int
		e          api.Errno
	}{
		{"example", exampleQuantities(), 2, api.OK},
		{"nothing", nil, 0, api.OK},
		{"empty", [][3]int{}, 0, api.OK},
		{"zeros", make([][3]int, 8), 0, api.OK},
		{"one", [][3]int{{0, 0, -4}}, 1, api.OK},
		{"multiples", [][3]int{{0, 0, 0}, {1, -2, 1}, {-2, 4, -2}, {2, -4, 2}}, 1, api.OK},
		{"nearly multiples", [][3]int{{4, 4, 4}, {4, 4, 3}}, 2, api.OK},
		{"two of each", [][3]int{{0, 1, 2}, {0, 1, 2}, {3, 0, 0}, {3, 0, 0}}, 2, api.OK},
		{"all three, backwards", [][3]int{{0, 0, 1}, {0, 1, 0}, {1, 0, 0}}, 3, api.OK},
		{"nearly dependent", [][3]int{{4, 3, 2}, {3, 2, 1}, {1, 1, 2}}, 3, api.OK},
		{"eight", [][3]int{{4, 4, -4}, {-4, 4, 4}, {4, -4, 4}, {4, 4, 4}, {3, 3, 3}, {2, 1, 0}, {0, 1, 2}, {1, 0, 2}}, 3, api.OK},
		{"nine", make([][3]int, 9), 0, api.ErrLarge},
		{"nine, all too great", slices.Repeat([][3]int{{5}}, 9), 0, api.ErrLarge},
	} {
		if n, e := model.RankOf(x.quantities); n != x.want || e != x.e {
			t.Error(x.name, n, e)
		}
	}
}

// cross returns a quantity across two others.
func cross(a, b [3]int) [3]int {
	return [3]int{a[1]*b[2] - a[2]*b[1], a[2]*b[0] - a[0]*b[2], a[0]*b[1] - a[1]*b[0]}
}

// rankByHand returns the rank by volumes and areas.
func rankByHand(quantities [][3]int) int {
	rank := 0
	for _, a := range quantities {
		if a != ([3]int{}) {
			rank = max(rank, 1)
		}
		for _, b := range quantities {
			area := cross(a, b)
			if area != ([3]int{}) {
				rank = max(rank, 2)
			}
			for _, c := range quantities {
				if area[0]*c[0]+area[1]*c[1]+area[2]*c[2] != 0 {
					return 3
				}
			}
		}
	}
	return rank
}

// P5.2
func TestRankByHand(t *testing.T) {
	random := fixedRandom()
	found := map[int]int{}
	for range 3000 {
		quantities := make([][3]int, random.IntN(5))
		size := 1 + random.IntN(4)
		for i := range quantities {
			quantities[i] = someQuantity(random, size)
			if i > 1 && random.IntN(2) == 0 {
				for k := range 3 {
					quantities[i][k] = max(-4, min(4, quantities[i-1][k]-quantities[i-2][k]))
				}
			} else if random.IntN(2) == 0 {
				quantities[i][random.IntN(3)] = 0
			}
		}
		want := rankByHand(quantities)
		found[want]++
		if n, e := model.RankOf(quantities); n != want || e != api.OK {
			t.Fatal(quantities, n, e, want)
		}
	}
	if len(found) != 4 {
		t.Error(found)
	}
}

// P5.8: the terms of a right law have one factor.
func TestTermsHaveOneFactor(t *testing.T) {
	random := fixedRandom()
	right := 0
	for range 3000 {
		quantities := [][3]int{someQuantity(random, 1), someQuantity(random, 1), someQuantity(random, 1)}
		term := func() []int { return []int{within(random, 1), within(random, 1), within(random, 1)} }
		l := api.ModelLaw{Quantities: quantities, Terms: [][]int{term(), term()}}
		s := someScales(random, 6)
		factors := make([]string, 2)
		for i, powers := range l.Terms {
			var sum [3]int
			for k, power := range powers {
				for part, exponent := range quantities[k] {
					sum[part] += power * exponent
				}
			}
			factors[i] = factorByHand(s, sum).String()
		}
		i, e := model.CheckLaw(l)
		if e == api.OK {
			right++
			if i != 0 || factors[0] != factors[1] {
				t.Fatal(l, s, factors)
			}
		} else if i != 1 || e != api.ErrClash {
			t.Fatal(l, i, e)
		}
	}
	if right < 100 {
		t.Error(right)
	}
}
