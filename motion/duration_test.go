package motion_test

import (
	"math"
	"testing"

	"ductility/api"
	"ductility/motion"
)

// shares returns two shares.
func shares(fromNum, fromDen, toNum, toDen int) api.MotionShares {
	return api.MotionShares{From: api.Frac{Num: fromNum, Den: fromDen}, To: api.Frac{Num: toNum, Den: toDen}}
}

// P2.7, example 7
func TestDurations(t *testing.T) {
	for _, x := range []struct {
		r      api.MotionRecord
		shares api.MotionShares
		want   api.Range
	}{
		{exampleRecord(), shares(1, 4, 3, 4), api.Range{Lo: 2, Hi: 3}},
		{exampleRecord(), shares(0, 1, 1, 1), api.Range{Lo: 0, Hi: 3}},
		{exampleRecord(), shares(1, 6, 1, 3), api.Range{Lo: 0, Hi: 2}},
		{exampleRecord(), shares(1, 5, 1, 5), api.Range{Lo: 2, Hi: 2}},
		{exampleRecord(), shares(1, 1, 1, 1), api.Range{Lo: 3, Hi: 3}},
		{exampleRecord(), shares(167, 1000, 334, 1000-1), api.Range{Lo: 2, Hi: 3}},
		{api.MotionRecord{Step: 1, Samples: []int{0, 0, 3, 0}}, shares(0, 1, 1, 1000), api.Range{Lo: 0, Hi: 2}},
		{api.MotionRecord{Step: 1, Samples: []int{0, 0, 3, 0}}, shares(1, 1000, 1, 1), api.Range{Lo: 2, Hi: 2}},
		{zeros(5), shares(0, 1, 1, 1), api.Range{}},
		{zeros(2), shares(1, 2, 1, 1), api.Range{}},
		{same(24, -1000), shares(999, 1000, 1, 1), api.Range{Lo: 23, Hi: 23}},
		{same(24, 1000), shares(1, 24, 1, 2), api.Range{Lo: 0, Hi: 11}},
	} {
		if d, e := motion.DurationOf(x.r, x.shares); d != x.want || e != api.OK {
			t.Error(x, d, e)
		}
	}
}

// P2.7
func TestDurationErrors(t *testing.T) {
	checkRecordErrors(t, "duration", func(r api.MotionRecord) api.Errno {
		_, e := motion.DurationOf(r, api.MotionShares{})
		return e
	})
	for _, x := range []struct {
		name   string
		shares api.MotionShares
		want   api.Errno
	}{
		{"nothing", api.MotionShares{}, api.ErrForm},
		{"from not in lowest terms", shares(2, 4, -1, 1), api.ErrForm},
		{"0 not in lowest terms", shares(0, 2, 1, 1), api.ErrForm},
		{"1 not in lowest terms", shares(0, 1, 2, 2), api.ErrForm},
		{"from Den 0", shares(1, 0, 1, 1), api.ErrForm},
		{"from Den below 0", shares(-1, -2, 1, 1), api.ErrForm},
		{"smallest Den", shares(1, math.MinInt, 1, 1), api.ErrForm},
		{"from below 0", shares(-1, 2, 1, 0), api.ErrRange},
		{"from smallest", shares(math.MinInt, 1, 1, 1), api.ErrRange},
		{"from above 1", shares(3, 2, 1, 2), api.ErrRange},
		{"from of great parts", shares(1, 1001, 2, 4), api.ErrRange},
		{"from 1 by parts not in lowest terms", shares(1001, 1001, 1, 1), api.ErrForm},
		{"to not in lowest terms", shares(1, 2, 2, 6), api.ErrForm},
		{"to Den 0", shares(1, 2, 1, 0), api.ErrForm},
		{"to below 0", shares(1, 2, -1, 2), api.ErrRange},
		{"to above 1", shares(1, 2, 3, 2), api.ErrRange},
		{"to of great parts", shares(1, 2, 1, 1001), api.ErrRange},
		{"to of greatest parts", shares(1, 2, math.MaxInt-1, math.MaxInt), api.ErrRange},
		{"order", shares(1, 2, 1, 3), api.ErrOrder},
		{"order of neighbours", shares(999, 1000, 998, 999), api.ErrOrder},
	} {
		if d, e := motion.DurationOf(exampleRecord(), x.shares); d != (api.Range{}) || e != x.want {
			t.Error(x.name, d, e)
		}
	}
	if d, e := motion.DurationOf(exampleRecord(), shares(998, 999, 999, 1000)); d != (api.Range{Lo: 3, Hi: 3}) || e != api.OK {
		t.Error(d, e)
	}
}

// P2.14
func TestWiderSharesLastLonger(t *testing.T) {
	random := fixedRandom()
	for range 200 {
		r := someRecord(random, 1000)
		var before api.Range
		for n := 6; n >= 0; n-- {
			// 13 is a prime: n/13 is in lowest terms, but for 0.
			x := shares(n, 13, 13-n, 13)
			if n == 0 {
				x = shares(0, 1, 1, 1)
			}
			d, e := motion.DurationOf(r, x)
			if e != api.OK || d.Lo > d.Hi || n < 6 && (d.Lo > before.Lo || d.Hi < before.Hi) {
				t.Fatal(r, x, before, d, e)
			}
			checkEnergy(t, r, d.Lo, x.From)
			checkEnergy(t, r, d.Hi, x.To)
			before = d
		}
	}
}

// checkEnergy checks that a tick is the first one with a share of the energy.
func checkEnergy(t *testing.T, r api.MotionRecord, tick int, share api.Frac) {
	t.Helper()
	all, upTo, before := 0, 0, 0
	for at, a := range r.Samples {
		all += a * a
		if at <= tick {
			upTo += a * a
		}
		if at < tick {
			before += a * a
		}
	}
	if upTo*share.Den < all*share.Num || tick > 0 && before*share.Den >= all*share.Num {
		t.Fatal(r, tick, share)
	}
}
