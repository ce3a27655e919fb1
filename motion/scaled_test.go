package motion_test

import (
	"math"
	"math/big"
	"math/rand/v2"
	"slices"
	"testing"

	"ductility/api"
	"ductility/motion"
)

// frac returns a fraction as it is.
func frac(num, den int) api.Frac { return api.Frac{Num: num, Den: den} }

// scaled returns samples with the length of a tick.
func scaled(step api.Frac, den int, parts ...int) api.MotionScaled {
	return api.MotionScaled{Step: step, Den: den, Parts: parts}
}

// areSameScaled tells whether scaled samples are the same.
func areSameScaled(a, b api.MotionScaled) bool {
	return a.Step == b.Step && a.Den == b.Den && slices.Equal(a.Parts, b.Parts)
}

// P2.4, example 4
func TestScaled(t *testing.T) {
	billion := api.MaxPart
	for _, x := range []struct {
		name         string
		given        api.MotionScaled
		length, time api.Frac
		want         api.MotionScaled
	}{
		{"example", scaled(frac(10, 1), 1, 1, 0, -1, 2), frac(1, 2), frac(1, 3), scaled(frac(10, 3), 2, 9, 0, -9, 18)},
		{"1 and 1", scaled(frac(7, 3), 5, 1, 10, -15), frac(1, 1), frac(1, 1), scaled(frac(7, 3), 5, 1, 10, -15)},
		{"length alone", scaled(frac(7, 3), 5, 1, 10, -15), frac(10, 3), frac(1, 1), scaled(frac(7, 3), 3, 2, 20, -30)},
		{"time alone", scaled(frac(7, 3), 5, 1, 10, -15), frac(1, 1), frac(3, 2), scaled(frac(7, 2), 45, 4, 40, -60)},
		{"no samples", scaled(frac(1, 1), 1), frac(1, 2), frac(3, 1), scaled(frac(3, 1), 1)},
		{"zeros", scaled(frac(1, 1), 1, 0, 0), frac(1, 2), frac(3, 1), scaled(frac(3, 1), 1, 0, 0)},
		{"24 samples", scaled(frac(1, 1), 1, same(24, 1000).Samples...), frac(2, 1), frac(1, 1), scaled(frac(1, 1), 1, same(24, 2000).Samples...)},
		{"greatest parts", scaled(frac(1, 1), 1, billion, -billion), frac(1000, 1), frac(1, 1000), scaled(frac(1, 1000), 1, billion*billion, -billion*billion)},
		{"greatest Den", scaled(frac(999, 1), billion, 1), frac(1, 1000), frac(1000, 999), scaled(frac(1000, 1), billion*billion, 998001)},
		{"longest tick", scaled(frac(1000000, 999), 1, 1), frac(1, 1), frac(999, 1), scaled(frac(1000000, 1), 998001, 1)},
		{"a tick as long as can be", scaled(frac(1000000, 1), 1, 0), frac(1, 1), frac(1000, 1), scaled(frac(billion, 1), 1, 0)},
		{"a tick as short as can be", scaled(frac(1, 1000000), 1, 0), frac(1, 1), frac(1, 1000), scaled(frac(1, billion), 1, 0)},
	} {
		got, e := motion.ScaledBy(x.given, api.MotionScale{Length: x.length, Time: x.time})
		if !areSameScaled(got, x.want) || e != api.OK {
			t.Error(x.name, got, e)
		}
	}
}

// P2.4
func TestScaledErrors(t *testing.T) {
	one, tick := frac(1, 1), frac(10, 1)
	ones := api.MotionScale{Length: one, Time: one}
	for _, x := range []struct {
		name  string
		given api.MotionScaled
		scale api.MotionScale
		want  api.Errno
	}{
		{"nothing", api.MotionScaled{}, api.MotionScale{}, api.ErrForm},
		{"step not in lowest terms", scaled(frac(2, 2), 0, 1), ones, api.ErrForm},
		{"step 0 not in lowest terms", scaled(frac(0, 2), 1, 1), ones, api.ErrForm},
		{"step Den below 0", scaled(frac(-1, -1), 1, 1), ones, api.ErrForm},
		{"step of great parts not in lowest terms", scaled(frac(2*api.MaxPart, 2), 1, 1), ones, api.ErrForm},
		{"step smallest Den", scaled(frac(1, math.MinInt), 1, 1), ones, api.ErrForm},
		{"step 0", scaled(frac(0, 1), 1, 1), api.MotionScale{}, api.ErrRange},
		{"step below 0", scaled(frac(-1, 2), 1, 1), api.MotionScale{}, api.ErrRange},
		{"step above", scaled(frac(api.MaxPart+1, 1), 1, 1), ones, api.ErrRange},
		{"step Den above", scaled(frac(1, api.MaxPart+1), 1, 1), ones, api.ErrRange},
		{"step smallest", scaled(frac(math.MinInt, 1), 1, 1), ones, api.ErrRange},
		{"Den 0", scaled(tick, 0, make([]int, 25)...), ones, api.ErrRange},
		{"Den below 0", scaled(tick, -1, 1), ones, api.ErrRange},
		{"Den above", scaled(tick, api.MaxPart+1, 1), ones, api.ErrRange},
		{"25 parts", scaled(tick, 2, append(make([]int, 24), math.MaxInt)...), ones, api.ErrLarge},
		{"part above, not in lowest terms", scaled(tick, 2, 0, 2*api.MaxPart), ones, api.ErrRange},
		{"part below", scaled(tick, 1, -api.MaxPart-1, 0), ones, api.ErrRange},
		{"smallest part", scaled(tick, 1, math.MinInt), ones, api.ErrRange},
		{"parts not in lowest terms", scaled(tick, 6, 3, -9), api.MotionScale{Length: frac(2, 2), Time: one}, api.ErrForm},
		{"no parts not in lowest terms", scaled(tick, 2), ones, api.ErrForm},
		{"zeros not in lowest terms", scaled(tick, 3, 0, 0), ones, api.ErrForm},
		{"parts before length", scaled(tick, 2, 4), api.MotionScale{Length: frac(0, 1), Time: one}, api.ErrForm},
		{"length not in lowest terms", scaled(tick, 1, 1), api.MotionScale{Length: frac(2, 4), Time: one}, api.ErrForm},
		{"length Den 0", scaled(tick, 1, 1), api.MotionScale{Length: frac(1, 0), Time: one}, api.ErrForm},
		{"time not in lowest terms, length 0", scaled(tick, 1, 1), api.MotionScale{Length: frac(0, 1), Time: frac(3, 6)}, api.ErrForm},
		{"time Den below 0", scaled(tick, 1, 1), api.MotionScale{Length: one, Time: frac(1, -1)}, api.ErrForm},
		{"length 0", scaled(tick, 1, 1), api.MotionScale{Length: frac(0, 1), Time: one}, api.ErrRange},
		{"length below 0", scaled(tick, 1, 1), api.MotionScale{Length: frac(-1, 1), Time: one}, api.ErrRange},
		{"length above", scaled(tick, 1, 1), api.MotionScale{Length: frac(1001, 1), Time: one}, api.ErrRange},
		{"length Den above", scaled(tick, 1, 1), api.MotionScale{Length: frac(1, 1001), Time: one}, api.ErrRange},
		{"time 0", scaled(tick, 1, 1), api.MotionScale{Length: one, Time: frac(0, 1)}, api.ErrRange},
		{"time above", scaled(tick, 1, 1), api.MotionScale{Length: one, Time: frac(1001, 1)}, api.ErrRange},
		{"time Den above", scaled(frac(api.MaxPart, 1), 1, 1), api.MotionScale{Length: one, Time: frac(1, 1001)}, api.ErrRange},
		{"tick too long", scaled(frac(1000001, 1), 1, 1), api.MotionScale{Length: one, Time: frac(1000, 1)}, api.ErrLarge},
		{"Den of a tick too great", scaled(frac(1, 1000001), 1, 1), api.MotionScale{Length: one, Time: frac(1, 1000)}, api.ErrLarge},
		{"tick as long as can be asked for", scaled(frac(api.MaxPart, 1), 1), api.MotionScale{Length: one, Time: frac(1000, 1)}, api.ErrLarge},
	} {
		got, e := motion.ScaledBy(x.given, x.scale)
		if !areSameScaled(got, api.MotionScaled{}) || e != x.want {
			t.Error(x.name, got, e)
		}
	}
}

// someFrac returns a fraction in lowest terms with parts from 1 to most.
func someFrac(random *rand.Rand, most int) api.Frac {
	x := big.NewRat(int64(1+random.IntN(most)), int64(1+random.IntN(most)))
	return frac(int(x.Num().Int64()), int(x.Denom().Int64()))
}

// P2.4, P2.10
func TestScaledThereAndBack(t *testing.T) {
	random := fixedRandom()
	for range 300 {
		s := api.MotionScale{Length: someFrac(random, 8), Time: someFrac(random, 8)}
		rest, _ := motion.RestOf(someRecord(random, 20))
		given := scaled(someFrac(random, 1000), rest.Den, rest.Parts...)
		got, e := motion.ScaledBy(given, s)
		if e != api.OK || len(got.Parts) != len(given.Parts) {
			t.Fatal(given, s, got, e)
		}
		factor := big.NewRat(int64(s.Length.Num*s.Time.Den*s.Time.Den), int64(s.Length.Den*s.Time.Num*s.Time.Num))
		for i, part := range given.Parts {
			want := new(big.Rat).Mul(big.NewRat(int64(part), int64(given.Den)), factor)
			if want.Cmp(big.NewRat(int64(got.Parts[i]), int64(got.Den))) != 0 {
				t.Fatal(given, s, got)
			}
		}
		back := api.MotionScale{Length: frac(s.Length.Den, s.Length.Num), Time: frac(s.Time.Den, s.Time.Num)}
		if again, e := motion.ScaledBy(got, back); !areSameScaled(again, given) || e != api.OK {
			t.Fatal(given, s, got, again, e)
		}
	}
}
