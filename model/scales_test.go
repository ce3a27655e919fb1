package model_test

import (
	"math"
	"math/big"
	"testing"

	"ductility/api"
	"ductility/model"
)

// P5.1
func TestCheckScales(t *testing.T) {
	for _, s := range [][3]api.Frac{exampleScales(), greatScales(), {frac(1, 1), frac(100, 99), frac(1, 100)}} {
		if i, e := model.CheckScales(s); i != 0 || e != api.OK {
			t.Error(s, i, e)
		}
	}
	for _, x := range allBadScales() {
		if i, e := model.CheckScales(x.s); i != x.index || e != x.want {
			t.Error(x.name, i, e)
		}
	}
}

// P5.1, P5.2: scales with an error have it in all functions, before the errors of further arguments.
func TestScalesErrors(t *testing.T) {
	far := [3]int{5, 5, 5}
	for _, x := range allBadScales() {
		if f, e := model.FactorOf(x.s, far); f != (api.Frac{}) || e != x.want {
			t.Error("FactorOf", x.name, f, e)
		}
		if f, e := model.ToModel(x.s, far, api.Frac{}); f != (api.Frac{}) || e != x.want {
			t.Error("ToModel", x.name, f, e)
		}
		if f, e := model.ToFull(x.s, far, api.Frac{}); f != (api.Frac{}) || e != x.want {
			t.Error("ToFull", x.name, f, e)
		}
		if l, e := model.AddedFor(x.s, nil, []int{-1}); len(l) != 0 || e != x.want {
			t.Error("AddedFor", x.name, l, e)
		}
	}
}

// P5.1
func TestQuantityErrors(t *testing.T) {
	for _, quantity := range badQuantities() {
		for _, s := range [][3]api.Frac{exampleScales(), greatScales()} {
			if f, e := model.FactorOf(s, quantity); f != (api.Frac{}) || e != api.ErrRange {
				t.Error("FactorOf", quantity, f, e)
			}
			if f, e := model.ToModel(s, quantity, api.Frac{}); f != (api.Frac{}) || e != api.ErrRange {
				t.Error("ToModel", quantity, f, e)
			}
			if f, e := model.ToFull(s, quantity, api.Frac{}); f != (api.Frac{}) || e != api.ErrRange {
				t.Error("ToFull", quantity, f, e)
			}
		}
	}
}

// P5.1: the error of a value comes after those of the factor.
func TestValueErrors(t *testing.T) {
	const most = api.MaxPart
	for _, x := range []struct {
		name  string
		value api.Frac
		want  api.Errno
	}{
		{"nothing", api.Frac{}, api.ErrForm},
		{"Den 0", frac(1, 0), api.ErrForm},
		{"Den below 0", frac(1, -1), api.ErrForm},
		{"not in lowest terms", frac(-2, 4), api.ErrForm},
		{"zero not in lowest terms", frac(0, 3), api.ErrForm},
		{"too great, not in lowest terms", frac(2*most, 2), api.ErrForm},
		{"both the smallest", frac(math.MinInt, math.MinInt), api.ErrForm},
		{"both the greatest", frac(math.MaxInt, math.MaxInt), api.ErrForm},
		{"Num above", frac(most+1, 1), api.ErrRange},
		{"Num below", frac(-most-1, 1), api.ErrRange},
		{"Den above", frac(1, most+1), api.ErrRange},
		{"the smallest", frac(math.MinInt, 3), api.ErrRange},
		{"the greatest Den", frac(-1, math.MaxInt), api.ErrRange},
	} {
		for name, to := range bothWays() {
			if f, e := to(exampleScales(), [3]int{1, -1, 0}, x.value); f != (api.Frac{}) || e != x.want {
				t.Error(name, x.name, f, e)
			}
			if f, e := to(greatScales(), [3]int{4, 4, -4}, x.value); f != (api.Frac{}) || e != api.ErrLarge {
				t.Error(name, "a large factor", x.name, f, e)
			}
		}
	}
}

// bothWays returns ToModel and ToFull.
func bothWays() map[string]func([3]api.Frac, [3]int, api.Frac) (api.Frac, api.Errno) {
	return map[string]func([3]api.Frac, [3]int, api.Frac) (api.Frac, api.Errno){"ToModel": model.ToModel, "ToFull": model.ToFull}
}

// P5.1, example 1
func TestFactors(t *testing.T) {
	s := exampleScales()
	ten := [3]api.Frac{frac(10, 1), frac(1, 10), frac(1, 1)}
	for _, x := range []struct {
		name     string
		s        [3]api.Frac
		quantity [3]int
		want     api.Frac
		e        api.Errno
	}{
		{"velocity", s, [3]int{1, -1, 0}, frac(1, 2), api.OK},
		{"acceleration", s, [3]int{1, -2, 0}, frac(1, 1), api.OK},
		{"mass", s, [3]int{-1, 2, 1}, frac(1, 16), api.OK},
		{"stress", s, [3]int{-2, 0, 1}, frac(1, 1), api.OK},
		{"no exponents", s, [3]int{}, frac(1, 1), api.OK},
		{"no exponents, great scales", greatScales(), [3]int{}, frac(1, 1), api.OK},
		{"above 1", s, [3]int{-4, 0, 0}, frac(256, 1), api.OK},
		{"lowest terms", [3]api.Frac{frac(6, 35), frac(10, 21), frac(14, 15)}, [3]int{1, 1, 1}, frac(8, 105), api.OK},
		{"all cancel", [3]api.Frac{frac(97, 100), frac(100, 97), frac(1, 1)}, [3]int{4, 4, 4}, frac(1, 1), api.OK},
		{"the greatest Num", ten, [3]int{4, -4, 0}, frac(100000000, 1), api.OK},
		{"the greatest part", [3]api.Frac{frac(100, 1), frac(10, 1), frac(1, 1)}, [3]int{4, 1, 0}, frac(1000000000, 1), api.OK},
		{"the greatest Den", [3]api.Frac{frac(100, 1), frac(1, 10), frac(1, 1)}, [3]int{-4, 1, 0}, frac(1, 1000000000), api.OK},
		{"Num too great", [3]api.Frac{frac(100, 1), frac(11, 1), frac(1, 1)}, [3]int{4, 1, 0}, api.Frac{}, api.ErrLarge},
		{"Den too great", [3]api.Frac{frac(1, 100), frac(1, 11), frac(1, 1)}, [3]int{4, 1, 0}, api.Frac{}, api.ErrLarge},
		{"beyond all ints", [3]api.Frac{frac(64, 1), frac(64, 1), frac(64, 1)}, [3]int{4, 4, 4}, api.Frac{}, api.ErrLarge},
		{"both beyond all ints", [3]api.Frac{frac(64, 81), frac(64, 81), frac(64, 81)}, [3]int{-4, -4, -4}, api.Frac{}, api.ErrLarge},
	} {
		if f, e := model.FactorOf(x.s, x.quantity); f != x.want || e != x.e {
			t.Error(x.name, f, e)
		}
	}
}

// P5.1, example 1
func TestValues(t *testing.T) {
	s, mass := exampleScales(), [3]int{-1, 2, 1}
	tenth := [3]api.Frac{frac(1, 10), frac(1, 1), frac(1, 1)}
	for _, x := range []struct {
		name     string
		s        [3]api.Frac
		quantity [3]int
		value    api.Frac
		model    api.Frac
		modelE   api.Errno
		full     api.Frac
		fullE    api.Errno
	}{
		{"example", s, mass, frac(320, 1), frac(20, 1), api.OK, frac(5120, 1), api.OK},
		{"zero", s, mass, frac(0, 1), frac(0, 1), api.OK, frac(0, 1), api.OK},
		{"below 0", s, mass, frac(-4, 3), frac(-1, 12), api.OK, frac(-64, 3), api.OK},
		{"nothing changes", s, [3]int{}, frac(-api.MaxPart, 7), frac(-api.MaxPart, 7), api.OK, frac(-api.MaxPart, 7), api.OK},
		{"Num becomes the greatest", tenth, [3]int{1, 0, 0}, frac(100000000, 3), frac(10000000, 3), api.OK, frac(api.MaxPart, 3), api.OK},
		{"Num becomes too great", tenth, [3]int{1, 0, 0}, frac(-100000001, 3), frac(-100000001, 30), api.OK, api.Frac{}, api.ErrLarge},
		{"Den becomes the greatest", tenth, [3]int{1, 0, 0}, frac(1, 100000000), frac(1, api.MaxPart), api.OK, frac(1, 10000000), api.OK},
		{"Den becomes too great", tenth, [3]int{1, 0, 0}, frac(7, 100000001), api.Frac{}, api.ErrLarge, frac(70, 100000001), api.OK},
		{"the other way", tenth, [3]int{-1, 0, 0}, frac(-100000001, 3), api.Frac{}, api.ErrLarge, frac(-100000001, 30), api.OK},
		{"both great", [3]api.Frac{frac(100, 1), frac(10, 1), frac(1, 1)}, [3]int{4, 1, 0}, frac(999999999, api.MaxPart), frac(999999999, 1), api.OK, api.Frac{}, api.ErrLarge},
		{"greatest of all", [3]api.Frac{frac(100, 1), frac(10, 1), frac(1, 1)}, [3]int{4, 1, 0}, frac(api.MaxPart, 1), api.Frac{}, api.ErrLarge, frac(1, 1), api.OK},
	} {
		if f, e := model.ToModel(x.s, x.quantity, x.value); f != x.model || e != x.modelE {
			t.Error("ToModel", x.name, f, e)
		}
		if f, e := model.ToFull(x.s, x.quantity, x.value); f != x.full || e != x.fullE {
			t.Error("ToFull", x.name, f, e)
		}
	}
}

// factorByHand returns a factor by large numbers.
func factorByHand(s [3]api.Frac, quantity [3]int) *big.Rat {
	factor := big.NewRat(1, 1)
	for i, scale := range s {
		times := big.NewRat(int64(scale.Num), int64(scale.Den))
		if quantity[i] < 0 {
			times.Inv(times)
		}
		for range max(quantity[i], -quantity[i]) {
			factor.Mul(factor, times)
		}
	}
	return factor
}

// fracOf returns a fraction of large numbers, or ErrLarge.
func fracOf(x *big.Rat) (api.Frac, api.Errno) {
	most := big.NewInt(api.MaxPart)
	if x.Num().CmpAbs(most) > 0 || x.Denom().CmpAbs(most) > 0 {
		return api.Frac{}, api.ErrLarge
	}
	return frac(int(x.Num().Int64()), int(x.Denom().Int64())), api.OK
}

// P5.1
func TestFactorsByHand(t *testing.T) {
	random := fixedRandom()
	found := map[api.Errno]int{}
	for range 3000 {
		s, quantity := someScales(random, 1+random.IntN(100)), someQuantity(random, random.IntN(5))
		factor := factorByHand(s, quantity)
		want, wantError := fracOf(factor)
		if f, e := model.FactorOf(s, quantity); f != want || e != wantError {
			t.Fatal(s, quantity, f, e, factor)
		}
		value := big.NewRat(int64(within(random, api.MaxPart)), int64(1+random.IntN(api.MaxPart)))
		given, _ := fracOf(value)
		full, fullError := fracOf(new(big.Rat).Quo(value, factor))
		want, e := fracOf(new(big.Rat).Mul(value, factor))
		if wantError != api.OK {
			full, fullError, want, e = api.Frac{}, wantError, api.Frac{}, wantError
		}
		found[e]++
		if f, got := model.ToModel(s, quantity, given); f != want || got != e {
			t.Fatal(s, quantity, given, f, got, want)
		}
		if f, got := model.ToFull(s, quantity, given); f != full || got != fullError {
			t.Fatal(s, quantity, given, f, got, full)
		}
	}
	if found[api.OK] == 0 || found[api.ErrLarge] == 0 {
		t.Error(found)
	}
}

// P5.8
func TestThereAndBack(t *testing.T) {
	random := fixedRandom()
	for range 2000 {
		s, quantity := someScales(random, 12), someQuantity(random, 2)
		value, _ := fracOf(big.NewRat(int64(within(random, 1000)), int64(1+random.IntN(1000))))
		there, e := model.ToModel(s, quantity, value)
		if e != api.OK {
			continue
		}
		if back, e := model.ToFull(s, quantity, there); back != value || e != api.OK {
			t.Fatal(s, quantity, value, there, back, e)
		}
		other := someQuantity(random, 2)
		a, e := model.FactorOf(s, quantity)
		b, otherError := model.FactorOf(s, other)
		var sum [3]int
		for i := range sum {
			sum[i] = quantity[i] + other[i]
		}
		both, sumError := model.FactorOf(s, sum)
		if e != api.OK || otherError != api.OK || sumError != api.OK {
			continue
		}
		product := new(big.Rat).Mul(big.NewRat(int64(a.Num), int64(a.Den)), big.NewRat(int64(b.Num), int64(b.Den)))
		if want, _ := fracOf(product); both != want {
			t.Fatal(s, quantity, other, a, b, both)
		}
	}
}

// P5.2, example 1
func TestAdded(t *testing.T) {
	s := exampleScales()
	same := [3]api.Frac{frac(1, 1), frac(1, 1), frac(1, 1)}
	// The greatest factor of a mass that there is is 10^8.
	great := [3]api.Frac{frac(1, 100), frac(100, 1), frac(100, 1)}
	tiny := [3]api.Frac{frac(100, 1), frac(1, 100), frac(1, 100)}
	for _, x := range []struct {
		name      string
		s         [3]api.Frac
		full, own []int
		want      []api.Frac
		e         api.Errno
	}{
		{"example", s, []int{320, 160}, []int{5, 10}, []api.Frac{frac(15, 1), frac(0, 1)}, api.OK},
		{"nothing", s, nil, []int{}, nil, api.OK},
		{"parts", s, []int{1, 2, 3, 4, 5}, []int{0, 0, 0, 0, 0}, []api.Frac{frac(1, 16), frac(1, 8), frac(3, 16), frac(1, 4), frac(5, 16)}, api.OK},
		{"no masses", s, []int{0}, []int{0}, []api.Frac{frac(0, 1)}, api.OK},
		{"the greatest masses", same, []int{10000, 10000}, []int{0, 10000}, []api.Frac{frac(10000, 1), frac(0, 1)}, api.OK},
		{"too few own ones", s, []int{320, -1}, []int{5}, nil, api.ErrShape},
		{"too many own ones", s, []int{320}, []int{5, -1}, nil, api.ErrShape},
		{"six of one", s, make([]int, 6), make([]int, 5), nil, api.ErrShape},
		{"six", s, []int{-1, 0, 0, 0, 0, 0}, make([]int, 6), nil, api.ErrLarge},
		{"full below 0", s, []int{0, -1}, []int{1, 0}, nil, api.ErrRange},
		{"full above", s, []int{0, 10001}, []int{1, 0}, nil, api.ErrRange},
		{"own below 0", s, []int{0, 0}, []int{1, -1}, nil, api.ErrRange},
		{"own above", s, []int{0, 0}, []int{1, 10001}, nil, api.ErrRange},
		{"the greatest", s, []int{math.MaxInt}, []int{math.MinInt}, nil, api.ErrRange},
		{"below 0", s, []int{320, 160}, []int{5, 11}, nil, api.ErrBreak},
		{"just below 0", s, []int{15}, []int{1}, nil, api.ErrBreak},
		{"Num the greatest", great, []int{10, 0}, []int{0, 0}, []api.Frac{frac(api.MaxPart, 1), frac(0, 1)}, api.OK},
		{"Num too great", great, []int{0, 11}, []int{0, 0}, nil, api.ErrLarge},
		{"Num too great in spite of the own mass", great, []int{11}, []int{10000}, nil, api.ErrLarge},
		{"large, then below 0", great, []int{11, 0}, []int{0, 1}, nil, api.ErrLarge},
		{"below 0, then large", great, []int{0, 11}, []int{1, 0}, nil, api.ErrBreak},
		{"large, then a range", great, []int{11, -1}, []int{0, 0}, nil, api.ErrRange},
		{"the smallest", tiny, []int{10000, 1}, []int{0, 0}, []api.Frac{frac(1, 10000), frac(1, 100000000)}, api.OK},
		{"below 0 and large", tiny, []int{1}, []int{11}, nil, api.ErrLarge},
		{"below 0 and not large", tiny, []int{1}, []int{10}, nil, api.ErrBreak},
		{"below 0, then a range", s, []int{0, -1}, []int{1, 0}, nil, api.ErrRange},
	} {
		if l, e := model.AddedFor(x.s, x.full, x.own); !areSame(l, x.want) || e != x.e {
			t.Error(x.name, l, e)
		}
	}
}

// P5.2
func TestAddedByHand(t *testing.T) {
	random := fixedRandom()
	found := map[api.Errno]int{}
	for range 3000 {
		s := someScales(random, 1+random.IntN(100))
		count := random.IntN(3)
		full, own := make([]int, count), make([]int, count)
		factor := factorByHand(s, [3]int{-1, 2, 1})
		_, want := fracOf(factor)
		var added []api.Frac
		for i := range full {
			full[i], own[i] = random.IntN(10001), random.IntN(1+random.IntN(100))
			mass := new(big.Rat).Mul(big.NewRat(int64(full[i]), 1), factor)
			mass.Sub(mass, big.NewRat(int64(own[i]), 1))
			x, e := fracOf(mass)
			if e == api.OK && x.Num < 0 {
				e = api.ErrBreak
			}
			if want == api.OK {
				want = e
			}
			added = append(added, x)
		}
		if want != api.OK {
			added = nil
		}
		found[want]++
		if l, e := model.AddedFor(s, full, own); !areSame(l, added) || e != want {
			t.Fatal(s, full, own, l, e, want)
		}
	}
	for _, e := range []api.Errno{api.OK, api.ErrLarge, api.ErrBreak} {
		if found[e] == 0 {
			t.Error(found)
		}
	}
}
