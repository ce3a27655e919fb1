package sensor_test

import (
	"math"
	"slices"
	"testing"

	"ductility/api"
	"ductility/sensor"
)

// P7.4, example 8 and edge cases
func TestWatches(t *testing.T) {
	const most = api.MaxSensorRaw
	never := -1
	for _, x := range []struct {
		name     string
		watchers [][]int
		x        api.SensorWatch
		want     int
	}{
		{"example", exampleWatchers(), exampleWatch(), 3},
		{"hold 2", exampleWatchers(), watch(5, 2, 2), 2},
		{"hold 1", exampleWatchers(), watch(5, 2, 1), 1},
		{"hold 4", exampleWatchers(), watch(5, 2, 4), never},
		{"longer than all samples", exampleWatchers(), watch(5, 1, 60), never},
		{"as long as all samples", exampleWatchers(), watch(5, 1, 4), 3},
		{"need 1", exampleWatchers(), watch(5, 1, 3), 2},
		{"all must see more", exampleWatchers(), watch(5, 3, 1), 1},
		{"all must see more, and never do for long", exampleWatchers(), watch(5, 3, 2), never},
		{"more than the limit", exampleWatchers(), watch(9, 1, 1), never},
		{"as much as the limit", exampleWatchers(), watch(8, 1, 1), 0},
		{"broken off", rows([]int{9, 9, 0, 9, 9, 9}), watch(5, 1, 3), 5},
		{"broken off twice", rows([]int{9, 9, 0, 9, 9, 0, 9}), watch(5, 1, 3), never},
		{"other watchers", rows([]int{9, 0, 9, 0}, []int{0, 9, 0, 9}), watch(5, 1, 4), 3},
		{"below 0", rows([]int{0, -6, -6}), watch(5, 1, 2), 2},
		{"below 0, as much as the limit", rows([]int{0, -5, -5}), watch(5, 1, 2), never},
		{"both signs", rows([]int{6, -6}, []int{-6, 6}), watch(5, 2, 2), 1},
		{"the limit 0", rows([]int{0, 0, 1}), watch(0, 1, 1), 2},
		{"the greatest limit", rows([]int{most, -most}), watch(most, 1, 1), never},
		{"the greatest limit less 1", rows([]int{0, -most}), watch(most-1, 1, 1), 1},
		{"seven watchers, sixty samples", full(7, 60, 1), watch(0, 7, 60), 59},
		{"seven watchers, one of them dead", append(full(6, 60, 1), make([]int, 60)), watch(0, 7, 1), never},
	} {
		is, e := sensor.TrippedIn(x.watchers, x.x)
		if x.want == never {
			mustFail(t, x.name, is, e, api.ErrNone)
			continue
		}
		mustBe(t, x.name, is, e, x.want, api.OK)
	}
}

// P7.4, example 8
func TestVoters(t *testing.T) {
	for sample, want := range [][]int{{2}, {0, 1, 2}, {0, 2}, {0, 1}} {
		is, e := sensor.VotersAt(exampleWatchers(), exampleWatch(), sample)
		mustBe(t, sample, is, e, want, api.OK)
		// Neither the need nor the hold matters, and no watch must be tripped.
		is, e = sensor.VotersAt(exampleWatchers(), watch(5, 3, 60), sample)
		mustBe(t, sample, is, e, want, api.OK)
	}
	none, e := sensor.VotersAt(exampleWatchers(), watch(9, 1, 1), 0)
	mustBe(t, "none", none, e, nil, api.OK)
	both, e := sensor.VotersAt(rows([]int{-6}, []int{5}, []int{-5}, []int{6}), watch(5, 1, 1), 0)
	mustBe(t, "both signs", both, e, []int{0, 3}, api.OK)
	all, e := sensor.VotersAt(full(7, 60, -1), watch(0, 1, 1), 59)
	mustBe(t, "all", all, e, []int{0, 1, 2, 3, 4, 5, 6}, api.OK)
}

// P7.4: errors of watchers come before those of the watch, and ErrMissing last.
func TestWatchErrors(t *testing.T) {
	check := func(name any, watchers [][]int, x api.SensorWatch, want api.Errno) {
		t.Helper()
		is, e := sensor.TrippedIn(watchers, x)
		mustFail(t, name, is, e, want)
		for _, sample := range []int{0, 1, -1, 60} {
			voters, e := sensor.VotersAt(watchers, x, sample)
			mustFail(t, name, voters, e, want)
		}
	}
	for _, x := range allBadRows(api.MaxSensorWatchers) {
		check(x.name, x.l, watch(0, 1, 1), x.want)
		check(x.name, x.l, api.SensorWatch{}, x.want)
	}
	for _, x := range badWatches() {
		check(x.name, exampleWatchers(), x.x, api.ErrRange)
		check(x.name, zeros(3, 1), x.x, api.ErrRange)
	}
	check("need 2 of 1", zeros(1, 1), watch(0, 2, 1), api.ErrRange)
	check("need 7 of 6", zeros(6, 1), watch(0, 7, 1), api.ErrRange)
	for _, sample := range []int{-1, 4, 60, math.MaxInt, math.MinInt} {
		voters, e := sensor.VotersAt(exampleWatchers(), exampleWatch(), sample)
		mustFail(t, sample, voters, e, api.ErrMissing)
	}
}

// votersByHand returns the voters at a sample as they are defined.
func votersByHand(watchers [][]int, limit, sample int) []int {
	var voters []int
	for i, raw := range watchers {
		if raw[sample] > limit || raw[sample] < -limit {
			voters = append(voters, i)
		}
	}
	return voters
}

// trippedByHand returns the first sample at which a watch is tripped, or -1.
func trippedByHand(watchers [][]int, x api.SensorWatch) int {
	for last := x.Hold - 1; last < len(watchers[0]); last++ {
		isTripped := true
		for sample := last - x.Hold + 1; sample <= last; sample++ {
			isTripped = isTripped && len(votersByHand(watchers, x.Limit, sample)) >= x.Need
		}
		if isTripped {
			return last
		}
	}
	return -1
}

// P7.4, P7.13: watches by hand; what is tripped stays so, and not later, with a smaller limit, need or hold.
func TestWatchesByHand(t *testing.T) {
	random := fixedRandom()
	tripped := 0
	for range 1500 {
		var watchers [][]int
		count := 1 + random.IntN(20)
		for range 1 + random.IntN(7) {
			watchers = append(watchers, someRaw(random, count, 9))
		}
		x := watch(random.IntN(6), 1+random.IntN(len(watchers)), 1+random.IntN(4))
		want := trippedByHand(watchers, x)
		is, e := sensor.TrippedIn(watchers, x)
		if want < 0 {
			mustFail(t, x, is, e, api.ErrNone)
		} else {
			mustBe(t, x, is, e, want, api.OK)
		}
		for sample := range count {
			voters, e := sensor.VotersAt(watchers, x, sample)
			mustBe(t, x, voters, e, votersByHand(watchers, x.Limit, sample), api.OK)
		}
		if want < 0 {
			continue
		}
		tripped++
		for _, less := range []api.SensorWatch{watch(max(0, x.Limit-1), x.Need, x.Hold), watch(x.Limit, max(1, x.Need-1), x.Hold), watch(x.Limit, x.Need, max(1, x.Hold-1))} {
			if earlier, e := sensor.TrippedIn(watchers, less); e != api.OK || earlier > is {
				t.Error(watchers, x, is, less, earlier, e)
			}
		}
	}
	if tripped < 300 || tripped > 1200 {
		t.Error(tripped)
	}
}

// P7.13: with as many voters as Need at every sample a watch is tripped first at the sample Hold minus 1.
func TestTrippedAtOnce(t *testing.T) {
	for need := 1; need <= api.MaxSensorWatchers; need++ {
		watchers := append(full(need, 60, -3), zeros(api.MaxSensorWatchers-need, 60)...)
		slices.Reverse(watchers)
		for hold := 1; hold <= 60; hold++ {
			is, e := sensor.TrippedIn(watchers, watch(2, need, hold))
			mustBe(t, need, is, e, hold-1, api.OK)
		}
		if need < api.MaxSensorWatchers {
			is, e := sensor.TrippedIn(watchers, watch(2, need+1, 1))
			mustFail(t, need, is, e, api.ErrNone)
		}
	}
}
