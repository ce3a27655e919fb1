package motion_test

import (
	"math"
	"math/big"
	"slices"
	"testing"

	"ductility/api"
	"ductility/motion"
)

// exampleRest returns the rest of the record of the examples.
func exampleRest() api.MotionParts {
	return api.MotionParts{Den: 5, Parts: []int{4, -2, -8, 6}}
}

// examplePrices returns the prices of the rest of the record of the examples.
func examplePrices() api.MotionPrices {
	return api.MotionPrices{Den: 5, Velocity: -5, Displacement: 1}
}

// P2.3, example 3
func TestRests(t *testing.T) {
	for _, x := range []struct {
		name   string
		r      api.MotionRecord
		rest   api.MotionParts
		prices api.MotionPrices
	}{
		{"example", exampleRecord(), exampleRest(), examplePrices()},
		{"zeros", zeros(3), api.MotionParts{Den: 1, Parts: []int{0, 0, 0}}, api.MotionPrices{Den: 1}},
		{"at rest", api.MotionRecord{Step: 3, Samples: []int{4, -8, 4}}, api.MotionParts{Den: 1, Parts: []int{4, -8, 4}}, api.MotionPrices{Den: 1}},
		{"two samples", api.MotionRecord{Step: 1, Samples: []int{7, -3}}, api.MotionParts{Den: 1, Parts: []int{0, 0}}, api.MotionPrices{Den: 1, Velocity: 13, Displacement: -10}},
		{"whole changes", api.MotionRecord{Step: 1, Samples: []int{1, 1, 1}}, api.MotionParts{Den: 1, Parts: []int{0, 0, 0}}, api.MotionPrices{Den: 1, Velocity: -1}},
		{"thirds", api.MotionRecord{Step: 1, Samples: []int{0, 1, 0}}, api.MotionParts{Den: 3, Parts: []int{-1, 2, -1}}, api.MotionPrices{Den: 3, Velocity: -1}},
	} {
		if rest, e := motion.RestOf(x.r); rest.Den != x.rest.Den || !slices.Equal(rest.Parts, x.rest.Parts) || e != api.OK {
			t.Error(x.name, rest, e)
		}
		if p, e := motion.PricesOf(x.r); p != x.prices || e != api.OK {
			t.Error(x.name, p, e)
		}
		if i, e := motion.CheckRest(x.r, x.rest, x.prices); i != 0 || e != api.OK {
			t.Error(x.name, i, e)
		}
	}
}

// P2.3
func TestRestErrors(t *testing.T) {
	for _, x := range badRecords() {
		if rest, e := motion.RestOf(x.r); rest.Den != 0 || len(rest.Parts) != 0 || e != x.want {
			t.Error(x.name, rest, e)
		}
		if p, e := motion.PricesOf(x.r); p != (api.MotionPrices{}) || e != x.want {
			t.Error(x.name, p, e)
		}
		if i, e := motion.CheckRest(x.r, api.MotionParts{}, api.MotionPrices{}); i != 0 || e != x.want {
			t.Error(x.name, i, e)
		}
	}
}

// P2.3
func TestWrongRests(t *testing.T) {
	r := exampleRecord()
	greatest := func(signs ...int) []int {
		var l []int
		for _, sign := range signs {
			l = append(l, sign*api.MaxMotionPart)
		}
		return l
	}
	for _, x := range []struct {
		name   string
		rest   api.MotionParts
		prices api.MotionPrices
		index  int
		want   api.Errno
	}{
		{"nothing", api.MotionParts{}, api.MotionPrices{}, 0, api.ErrRange},
		{"Den 0, no parts", api.MotionParts{Den: 0}, examplePrices(), 0, api.ErrRange},
		{"Den below 0", api.MotionParts{Den: -5, Parts: []int{-4, 2, 8, -6}}, examplePrices(), 0, api.ErrRange},
		{"Den above, no parts", api.MotionParts{Den: api.MaxPart + 1}, examplePrices(), 0, api.ErrRange},
		{"no parts", api.MotionParts{Den: 1}, api.MotionPrices{}, 0, api.ErrShape},
		{"too few parts", api.MotionParts{Den: 2, Parts: []int{0, math.MinInt, 0}}, examplePrices(), 0, api.ErrShape},
		{"too many parts", api.MotionParts{Den: 5, Parts: []int{4, -2, -8, 6, 0}}, examplePrices(), 0, api.ErrShape},
		{"part above, not in lowest terms", api.MotionParts{Den: 2, Parts: []int{0, 0, 0, 2 * api.MaxMotionPart}}, examplePrices(), 0, api.ErrRange},
		{"part just above", api.MotionParts{Den: 1, Parts: []int{0, 0, 0, api.MaxMotionPart + 1}}, examplePrices(), 0, api.ErrRange},
		{"smallest part", api.MotionParts{Den: 5, Parts: []int{math.MinInt, -2, -8, 6}}, examplePrices(), 0, api.ErrRange},
		{"not in lowest terms", api.MotionParts{Den: 10, Parts: []int{8, -4, -16, 12}}, api.MotionPrices{}, 0, api.ErrForm},
		{"zeros not in lowest terms", api.MotionParts{Den: 2, Parts: []int{0, 0, 0, 0}}, api.MotionPrices{}, 0, api.ErrForm},
		{"prices of nothing", exampleRest(), api.MotionPrices{}, 0, api.ErrRange},
		{"prices Den below 0", exampleRest(), api.MotionPrices{Den: -5, Velocity: 5, Displacement: -1}, 0, api.ErrRange},
		{"prices Den above", exampleRest(), api.MotionPrices{Den: api.MaxPart + 1, Velocity: 1}, 0, api.ErrRange},
		{"prices above, not in lowest terms", exampleRest(), api.MotionPrices{Den: 2, Velocity: 2 * api.MaxMotionPart}, 0, api.ErrRange},
		{"prices just above", exampleRest(), api.MotionPrices{Den: 1, Velocity: api.MaxMotionPart + 1}, 0, api.ErrRange},
		{"prices smallest", exampleRest(), api.MotionPrices{Den: 5, Displacement: math.MinInt}, 0, api.ErrRange},
		{"prices not in lowest terms", exampleRest(), api.MotionPrices{Den: 10, Velocity: -10, Displacement: 2}, 0, api.ErrForm},
		{"prices 0 not in lowest terms", api.MotionParts{Den: 1, Parts: []int{1, 0, 0, 0}}, api.MotionPrices{Den: 3}, 0, api.ErrForm},
		{"velocity", api.MotionParts{Den: 5, Parts: []int{4, -2, -8, 7}}, examplePrices(), 0, api.ErrOpen},
		{"displacement", api.MotionParts{Den: 5, Parts: []int{4, -2, -7, 5}}, examplePrices(), 1, api.ErrOpen},
		{"displacement before proof", api.MotionParts{Den: 1, Parts: []int{9, -9, 0, 0}}, api.MotionPrices{Den: 1}, 1, api.ErrOpen},
		{"parts of greatest size", api.MotionParts{Den: 999999937, Parts: greatest(1, 1, 1, 1)}, examplePrices(), 0, api.ErrOpen},
		{"another price of velocity", exampleRest(), api.MotionPrices{Den: 5, Velocity: -4, Displacement: 1}, 0, api.ErrProof},
		{"another Den of prices", exampleRest(), api.MotionPrices{Den: 4, Velocity: -5, Displacement: 1}, 0, api.ErrProof},
		{"right at the first sample", exampleRest(), api.MotionPrices{Den: 5, Velocity: -1}, 1, api.ErrProof},
		{"right at the second sample", exampleRest(), api.MotionPrices{Den: 5, Velocity: -8, Displacement: 2}, 0, api.ErrProof},
		{"wrong from the first part on", api.MotionParts{Den: 5, Parts: []int{5, -4, -7, 6}}, examplePrices(), 0, api.ErrProof},
		{"wrong from the second part on", api.MotionParts{Den: 5, Parts: []int{4, -1, -10, 7}}, examplePrices(), 1, api.ErrProof},
		{"numbers that end at rest, but are not the rest", api.MotionParts{Den: 1, Parts: []int{1, -1, -1, 1}}, api.MotionPrices{Den: 1}, 1, api.ErrProof},
		{"parts of greatest size that end at rest", api.MotionParts{Den: 999999937, Parts: greatest(1, -1, -1, 1)}, api.MotionPrices{Den: api.MaxPart, Velocity: 999999999999, Displacement: api.MaxMotionPart}, 0, api.ErrProof},
	} {
		if i, e := motion.CheckRest(r, x.rest, x.prices); i != x.index || e != x.want {
			t.Error(x.name, i, e)
		}
	}
}

// P2.3: 2^35 + 1 and 1 over 2^29 are not the same, but their products with 2^29 would be in 64 bits.
func TestGreatRests(t *testing.T) {
	n := 1<<35 + 1
	x := api.MotionParts{Den: 1 << 29, Parts: []int{n, -2 * n, n}}
	if i, e := motion.CheckRest(zeros(3), x, api.MotionPrices{Den: 1 << 29, Velocity: 1}); i != 0 || e != api.ErrProof {
		t.Error(i, e)
	}
}

// distance returns the sum of the squares of all changes of a record.
func distance(r api.MotionRecord, x api.MotionParts) *big.Rat {
	sum := new(big.Int)
	for t, part := range x.Parts {
		change := big.NewInt(int64(part - r.Samples[t]*x.Den))
		sum.Add(sum, change.Mul(change, change))
	}
	den := big.NewInt(int64(x.Den))
	return new(big.Rat).SetFrac(sum, den.Mul(den, den))
}

// P2.9
func TestRestsAreNearest(t *testing.T) {
	random := fixedRandom()
	for range 300 {
		r := someRecord(random, 1+random.IntN(1000))
		x, e := motion.RestOf(r)
		p, pricesError := motion.PricesOf(r)
		if e != api.OK || pricesError != api.OK {
			t.Fatal(r, e, pricesError)
		}
		if i, e := motion.CheckRest(r, x, p); i != 0 || e != api.OK {
			t.Fatal(r, x, p, i, e)
		}
		if endByHand(x.Parts) != (api.MotionEnd{}) {
			t.Fatal(r, x)
		}
		least := distance(r, x)
		for range 10 {
			whole := slices.Clone(r.Samples)
			for i := range whole {
				whole[i] = x.Parts[i]/x.Den + within(random, 1)
			}
			if distance(r, api.MotionParts{Den: 1, Parts: stopped(whole)}).Cmp(least) < 0 {
				t.Fatal(r, x, whole)
			}
		}
	}
}

// wrongRest is a change of a rest or of its prices.
type wrongRest struct {
	name   string
	change func(x *api.MotionParts, p *api.MotionPrices)
}

// wrongRests lists changes, at a part and by a number.
func wrongRests(at, by int) []wrongRest {
	return []wrongRest{
		{"a part", func(x *api.MotionParts, _ *api.MotionPrices) { x.Parts[at] += by }},
		{"Den", func(x *api.MotionParts, _ *api.MotionPrices) { x.Den++ }},
		{"Den of prices", func(_ *api.MotionParts, p *api.MotionPrices) { p.Den++ }},
		{"velocity", func(_ *api.MotionParts, p *api.MotionPrices) { p.Velocity += by }},
		{"displacement", func(_ *api.MotionParts, p *api.MotionPrices) { p.Displacement += by }},
		{"both prices, right for the first sample", func(x *api.MotionParts, p *api.MotionPrices) {
			p.Displacement += by
			p.Velocity -= by * len(x.Parts)
		}},
		{"all doubled", func(x *api.MotionParts, p *api.MotionPrices) {
			x.Den *= 2
			for i := range x.Parts {
				x.Parts[i] *= 2
			}
		}},
		{"a wave added", func(x *api.MotionParts, _ *api.MotionPrices) {
			for i, n := range []int{by, -2 * by, by}[:min(3, len(x.Parts))] {
				x.Parts[i] += n
			}
		}},
	}
}

// P2.9: neither another part, nor another price, nor another denominator is accepted.
func TestNothingButTheRest(t *testing.T) {
	random := fixedRandom()
	for range 300 {
		r := someRecord(random, 1000)
		rest, _ := motion.RestOf(r)
		prices, _ := motion.PricesOf(r)
		for _, x := range wrongRests(random.IntN(len(rest.Parts)), 1-2*random.IntN(2)) {
			wrong, wrongPrices := api.MotionParts{Den: rest.Den, Parts: slices.Clone(rest.Parts)}, prices
			x.change(&wrong, &wrongPrices)
			if i, e := motion.CheckRest(r, wrong, wrongPrices); e == api.OK {
				t.Fatal(x.name, r, wrong, wrongPrices, i)
			}
		}
	}
}

// P2.9
func TestRecordsAtRest(t *testing.T) {
	random := fixedRandom()
	for range 300 {
		r := someRecord(random, 9)
		r.Samples = stopped(r.Samples)
		if _, e := motion.CheckRecord(r); e != api.OK {
			continue // the last two samples became too great
		}
		x, e := motion.RestOf(r)
		p, pricesError := motion.PricesOf(r)
		if x.Den != 1 || !slices.Equal(x.Parts, r.Samples) || e != api.OK || p != (api.MotionPrices{Den: 1}) || pricesError != api.OK {
			t.Fatal(r, x, e, p, pricesError)
		}
	}
}
