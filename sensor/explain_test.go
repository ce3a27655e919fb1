package sensor_test

import (
	"math"
	"math/rand/v2"
	"slices"
	"testing"

	"ductility/api"
	"ductility/sensor"
)

// P7.3
func TestTruth(t *testing.T) {
	for _, x := range badTruths() {
		index, e := sensor.CheckTruth(x.x)
		mustBe(t, x.name, index, e, x.index, x.want)
	}
	for _, x := range []api.SensorTruth{
		exampleTruth(), truth(0, []int{0}), truth(api.MaxSensorOff, full(4, 60, api.MaxSensorRaw)...),
		truth(0, full(4, 1, -api.MaxSensorRaw)...), truth(5, []int{1}, []int{1}),
	} {
		index, e := sensor.CheckTruth(x)
		mustBe(t, x, index, e, 0, api.OK)
	}
}

// explained is what an explanation of channels is.
type explained struct {
	name     string
	x        api.SensorTruth
	measured [][]int
	want     api.SensorExplanation
	cost     int
}

// allExplained lists channels that are explained.
func allExplained() []explained {
	const most = api.MaxSensorRaw
	x := exampleTruth()
	four := [][]int{{1, 10}, {20, 3}, {5, -30}, {-40, 7}}
	return []explained{
		{"example 6", x, exampleMeasured(), exampleExplanation(), 3},
		{"example 7", x, rows([]int{0, 1, 0}, []int{2, -4, 8}), explanation(straight(-1), straight(1)), 1},
		{"the truth", x, x.Signals, explanation(straight(0), straight(1)), 0},
		{"each off by 1", x, rows([]int{0, 6, 9}, []int{3, -5, 7}), explanation(straight(0), straight(1)), 0},
		{"exchanged", x, rows([]int{2, -4, 8}, []int{1, 5, 9}), explanation(straight(1), straight(0)), 2},
		{"reversed", x, rows([]int{-1, -5, -9}, []int{2, -4, 8}), explanation(reverse(0), straight(1)), 1},
		{"both reversed", x, rows([]int{-1, -5, -9}, []int{-2, 4, -8}), explanation(reverse(0), reverse(1)), 2},
		{"exchanged and reversed", x, rows([]int{-2, 4, -8}, []int{-1, -5, -9}), explanation(reverse(1), reverse(0)), 4},
		{"both loose", x, rows([]int{0, 0, 0}, []int{1, -1, 0}), explanation(straight(-1), straight(-1)), 2},
		{"one exchanged, one loose", x, rows([]int{2, -4, 8}, []int{0, 0, 0}), explanation(straight(1), straight(-1)), 2},
		{"one in a circle", truth(0, four...), rows(four[1], four[2], four[3], four[0]), explanation(straight(1), straight(2), straight(3), straight(0)), 4},
		{"the other circle", truth(0, four...), rows(four[3], four[0], four[1], four[2]), explanation(straight(3), straight(0), straight(1), straight(2)), 4},
		{"two exchanged, one loose", truth(2, four...), rows(four[0], four[3], []int{2, -2}, four[1]), explanation(straight(0), straight(3), straight(-1), straight(1)), 3},
		{"0 that may be loose", truth(1, []int{0, 1}), rows([]int{0, 0}), explanation(straight(0)), 0},
		{"0 that is loose, not reversed", truth(1, []int{0, 2}), rows([]int{0, -1}), explanation(straight(-1)), 1},
		{"0 that is loose, not exchanged", truth(0, []int{5}, []int{0}), rows([]int{0}, []int{0}), explanation(straight(-1), straight(1)), 1},
		{"the cheaper one of all", truth(3, []int{2}, []int{3}), rows([]int{0}, []int{0}), explanation(straight(0), straight(1)), 0},
		{"a signal for both", truth(0, []int{5}, []int{0}), rows([]int{5}, []int{0}), explanation(straight(0), straight(1)), 0},
		{"loose before reversed", truth(1, []int{1, -2}), rows([]int{-1, 1}), explanation(straight(-1)), 1},
		{"equal signals", truth(0, []int{5}, []int{5}), rows([]int{5}, []int{5}), explanation(straight(0), straight(1)), 0},
		{"opposite signals", truth(0, []int{5}, []int{-5}), rows([]int{-5}, []int{5}), explanation(reverse(0), reverse(1)), 2},
		{"opposite signals, one of them", truth(0, []int{5}, []int{-5}), rows([]int{-5}, []int{-5}), explanation(reverse(0), straight(1)), 1},
		{"the first of equal costs", truth(0, []int{1}, []int{7}, []int{7}), rows([]int{7}, []int{0}, []int{0}), explanation(straight(1), straight(-1), straight(-1)), 3},
		{"both loose, not one of them reversed", truth(1, []int{1}, []int{9}), rows([]int{-1}, []int{-1}), explanation(straight(-1), straight(-1)), 2},
		{"a later channel that is cheaper", truth(1, []int{1}, []int{9}, []int{9}), rows([]int{-1}, []int{9}, []int{9}), explanation(straight(-1), straight(1), straight(2)), 1},
		{"not reversed before reversed", truth(0, []int{9}, []int{0}), rows([]int{0}, []int{9}), explanation(straight(-1), straight(0)), 2},
		{"a signal of 0 that is exchanged", truth(0, []int{0}, []int{9}), rows([]int{9}, []int{9}), api.SensorExplanation{}, -1},
		{"the greatest samples", truth(0, []int{most, -most}), rows([]int{-most, most}), explanation(reverse(0)), 1},
		{"the greatest Off", truth(api.MaxSensorOff, []int{most}), rows([]int{0}), explanation(straight(0)), 0},
		{"the greatest Off, opposite", truth(api.MaxSensorOff, []int{most}), rows([]int{-1}), explanation(straight(-1)), 1},
		{"the greatest Off, loose", truth(api.MaxSensorOff, []int{1}), rows([]int{-most}), explanation(straight(-1)), 1},
		{"nothing fits", x, rows([]int{3, 3, 3}, []int{2, -4, 8}), api.SensorExplanation{}, -1},
		{"off by 2", x, rows([]int{1, 5, 9}, []int{2, -4, 10}), api.SensorExplanation{}, -1},
		{"off by -2", x, rows([]int{1, 5, 7}, []int{2, -4, 8}), api.SensorExplanation{}, -1},
		{"one signal for both", x, rows([]int{1, 5, 9}, []int{1, 5, 9}), api.SensorExplanation{}, -1},
		{"one signal for both, once reversed", x, rows([]int{1, 5, 9}, []int{-1, -5, -9}), api.SensorExplanation{}, -1},
		{"loose beyond Off", x, rows([]int{1, 5, 9}, []int{0, 2, 0}), api.SensorExplanation{}, -1},
	}
}

// P7.3, examples 6 and 7, and edge cases
func TestExplanations(t *testing.T) {
	for _, x := range allExplained() {
		is, cost, e := sensor.ExplanationOf(x.x, x.measured)
		if x.cost < 0 {
			mustFail(t, x.name, is, e, api.ErrNone)
			mustFail(t, x.name, cost, e, api.ErrNone)
			continue
		}
		mustBe(t, x.name, is, e, x.want, api.OK)
		mustBe(t, x.name, cost, e, x.cost, api.OK)
		cost, e = sensor.CheckExplanation(x.x, x.measured, x.want)
		mustBe(t, x.name, cost, e, x.cost, api.OK)
	}
}

// P7.3: explanations that hold are accepted whatever they cost, others are not.
func TestAcceptedExplanations(t *testing.T) {
	x := exampleTruth()
	zero := truth(1, []int{1, 0}, []int{0, -1}, []int{0, 0})
	for _, y := range []struct {
		name     string
		x        api.SensorTruth
		measured [][]int
		is       api.SensorExplanation
		cost     int
		want     api.Errno
	}{
		{"dear", zero, zeros(3, 2), explanation(reverse(2), reverse(0), reverse(1)), 6, api.OK},
		{"loose", zero, zeros(3, 2), explanation(straight(-1), straight(-1), straight(-1)), 3, api.OK},
		{"one loose", zero, zeros(3, 2), explanation(straight(1), straight(-1), reverse(2)), 3, api.OK},
		{"cheap", zero, zeros(3, 2), explanation(straight(0), straight(1), straight(2)), 0, api.OK},
		{"one off", zero, rows([]int{0, 0}, []int{0, 0}, []int{0, 2}), explanation(straight(0), straight(1), straight(2)), 0, api.ErrProof},
		{"one off, below", zero, rows([]int{0, -2}, []int{0, 0}, []int{0, 0}), explanation(straight(0), straight(1), straight(2)), 0, api.ErrProof},
		{"off by 1 from what is off by 1", zero, rows([]int{0, 0}, []int{0, -2}, []int{0, 0}), explanation(straight(0), straight(1), straight(2)), 0, api.OK},
		{"loose, but off", zero, rows([]int{0, 0}, []int{0, -2}, []int{0, 0}), explanation(straight(0), straight(-1), straight(2)), 0, api.ErrProof},
		{"not reversed", x, exampleMeasured(), explanation(straight(1), straight(0)), 0, api.ErrProof},
		{"not exchanged", x, exampleMeasured(), explanation(straight(0), straight(1)), 0, api.ErrProof},
		{"both reversed", x, exampleMeasured(), explanation(reverse(1), reverse(0)), 0, api.ErrProof},
		{"one loose that is not", x, exampleMeasured(), explanation(reverse(1), straight(-1)), 0, api.ErrProof},
	} {
		cost, e := sensor.CheckExplanation(y.x, y.measured, y.is)
		mustBe(t, y.name, cost, e, y.cost, y.want)
	}
}

// mustFailToExplain checks the error of the truth or of the channels.
func mustFailToExplain(t *testing.T, name any, x api.SensorTruth, measured [][]int, want api.Errno) {
	t.Helper()
	is, cost, e := sensor.ExplanationOf(x, measured)
	mustFail(t, name, is, e, want)
	mustFail(t, name, cost, e, want)
	for _, bad := range append(badExplanations(), badExplanation{"none", explanation(straight(0), straight(1)), api.OK}) {
		cost, e := sensor.CheckExplanation(x, measured, bad.x)
		mustFail(t, name, cost, e, want)
	}
}

// P7.3: errors of the truth come before those of the channels, and these before those of the explanation.
func TestExplanationErrors(t *testing.T) {
	for _, x := range badTruths() {
		mustFailToExplain(t, x.name, x.x, x.x.Signals, x.want)
		mustFailToExplain(t, x.name, x.x, nil, x.want)
		mustFailToExplain(t, x.name, x.x, full(5, 2, 100001), x.want)
	}
	x := truth(0, []int{1, 2}, []int{3, 4})
	for _, bad := range []badRows{
		{"no channels", nil, 0, api.ErrShape},
		{"one channel", rows([]int{100001}), 0, api.ErrShape},
		{"three channels", rows(nil, []int{1, 2}, []int{3, 4}), 0, api.ErrShape},
		{"five channels", full(5, 2, 100001), 0, api.ErrShape},
		{"first without samples", rows(nil, []int{3, 100001}), 0, api.ErrShape},
		{"first too long", rows(make([]int, 61), []int{3}), 0, api.ErrLarge},
		{"first too great", rows([]int{1, 100001, 0}, []int{3}), 0, api.ErrRange},
		{"first one sample more", rows([]int{1, 2, 3}, nil), 0, api.ErrClash},
		{"first one sample less", rows([]int{1}, []int{3, -100001}), 0, api.ErrClash},
		{"both one sample more", rows([]int{1, 2, 3}, []int{1, 2, 3}), 0, api.ErrClash},
		{"second without samples", rows([]int{1, 2}, []int{}), 1, api.ErrShape},
		{"second too long", rows([]int{1, 2}, make([]int, 61)), 1, api.ErrLarge},
		{"second too great", rows([]int{1, 2}, []int{-100001}), 1, api.ErrRange},
		{"second the smallest", rows([]int{1, 2}, []int{0, math.MinInt}), 1, api.ErrRange},
		{"second one sample less", rows([]int{1, 2}, []int{3}), 1, api.ErrClash},
		{"second one sample more", rows([]int{1, 2}, []int{3, 4, 5}), 1, api.ErrClash},
	} {
		mustFailToExplain(t, bad.name, x, bad.l, bad.want)
	}
	three := truth(0, []int{1, 2}, []int{3, 4}, []int{5, 6})
	for _, measured := range [][][]int{three.Signals, zeros(3, 2), full(3, 2, 9)} {
		for _, bad := range badExplanations() {
			cost, e := sensor.CheckExplanation(three, measured, bad.x)
			mustFail(t, bad.name, cost, e, bad.want)
		}
	}
}

// P7.3, example 6 and edge cases
func TestUndone(t *testing.T) {
	const most = api.MaxSensorRaw
	three := rows([]int{1, -2}, []int{3, 4}, []int{5, -6})
	for _, x := range []struct {
		name     string
		measured [][]int
		is       api.SensorExplanation
		want     [][]int
	}{
		{"example", exampleMeasured(), exampleExplanation(), rows([]int{1, 4, 9}, []int{2, -4, 7})},
		{"no faults", three, explanation(straight(0), straight(1), straight(2)), three},
		{"loose", three, explanation(straight(-1), straight(-1), straight(-1)), zeros(3, 2)},
		{"one loose", three, explanation(straight(0), straight(-1), straight(2)), rows([]int{1, -2}, []int{0, 0}, []int{5, -6})},
		{"reversed", three, explanation(reverse(0), reverse(1), straight(2)), rows([]int{-1, 2}, []int{-3, -4}, []int{5, -6})},
		{"a circle", three, explanation(straight(1), straight(2), straight(0)), rows([]int{5, -6}, []int{1, -2}, []int{3, 4})},
		{"one loose in a circle", three, explanation(straight(1), straight(-1), reverse(0)), rows([]int{-5, 6}, []int{1, -2}, []int{0, 0})},
		{"one channel", rows([]int{0, most, -most}), explanation(reverse(0)), rows([]int{0, -most, most})},
		{"four channels", full(4, 60, most), explanation(straight(-1), straight(-1), straight(-1), straight(0)), append(full(1, 60, most), zeros(3, 60)...)},
	} {
		is, e := sensor.Undone(x.measured, x.is)
		mustBe(t, x.name, is, e, x.want, api.OK)
	}
}

// P7.3: errors of channels by themselves come before those of the explanation.
func TestUndoneErrors(t *testing.T) {
	for _, x := range allBadRows(api.MaxSensorChannels) {
		for _, bad := range badExplanations() {
			is, e := sensor.Undone(x.l, bad.x)
			mustFail(t, x.name, is, e, x.want)
		}
		is, e := sensor.Undone(x.l, explanation(slices.Repeat([]option{straight(-1)}, len(x.l))...))
		mustFail(t, x.name, is, e, x.want)
	}
	for _, x := range badExplanations() {
		is, e := sensor.Undone(zeros(3, 2), x.x)
		mustFail(t, x.name, is, e, x.want)
	}
}

// costByHand returns the cost of an explanation as it is defined.
func costByHand(x api.SensorExplanation) int {
	cost := 0
	for channel, source := range x.Sources {
		isLoose := source == -1
		if isLoose {
			cost++
		}
		if x.Reversed[channel] {
			cost++
		}
		if !isLoose && source != channel {
			cost++
		}
	}
	return cost
}

// holdsByHand tells whether an explanation holds, and all of its sources are different.
func holdsByHand(x api.SensorTruth, measured [][]int, is api.SensorExplanation) bool {
	for channel, source := range is.Sources {
		if source == -1 && is.Reversed[channel] || source != -1 && slices.Index(is.Sources, source) != channel {
			return false
		}
		for i, sample := range measured[channel] {
			wanted := 0
			if source >= 0 {
				wanted = x.Signals[source][i]
			}
			if is.Reversed[channel] {
				wanted *= -1
			}
			if sample < wanted-x.Off || sample > wanted+x.Off {
				return false
			}
		}
	}
	return true
}

// allOptions returns all lists of so many options, in their order.
func allOptions(channels, count int) [][]option {
	if count == 0 {
		return [][]option{nil}
	}
	var all [][]option
	for source := -1; source < channels; source++ {
		for _, isReversed := range []bool{false, true} {
			for _, further := range allOptions(channels, count-1) {
				all = append(all, append([]option{{source, isReversed}}, further...))
			}
		}
	}
	return all
}

// someTruth returns a truth of small samples, so that signals are often like each other, their opposites, or 0.
func someTruth(random *rand.Rand) api.SensorTruth {
	x := api.SensorTruth{Off: random.IntN(4)}
	count, size := 1+random.IntN(3), 1+random.IntN(8)
	for range 1 + random.IntN(4) {
		x.Signals = append(x.Signals, someRaw(random, count, size))
	}
	return x
}

// someFaults returns an explanation of so many channels.
func someFaults(random *rand.Rand, channels int) api.SensorExplanation {
	var options []option
	for channel, source := range random.Perm(channels) {
		switch random.IntN(6) {
		case 0:
			options = append(options, straight(-1))
		case 1:
			options = append(options, reverse(source))
		case 2:
			isFree := !slices.ContainsFunc(options, func(o option) bool { return o.source == channel })
			if isFree && source == channel {
				options = append(options, straight(channel))
				continue
			}
			fallthrough
		default:
			options = append(options, straight(source))
		}
	}
	return explanation(options...)
}

// measuredBy returns what channels measure by an explanation, each sample off by at most so much.
func measuredBy(random *rand.Rand, x api.SensorTruth, faults api.SensorExplanation, off int) [][]int {
	var measured [][]int
	for channel, source := range faults.Sources {
		raw := make([]int, len(x.Signals[0]))
		for i := range raw {
			if source >= 0 {
				raw[i] = x.Signals[source][i]
			}
			if faults.Reversed[channel] {
				raw[i] *= -1
			}
			raw[i] += within(random, off)
		}
		measured = append(measured, raw)
	}
	return measured
}

// P7.3, P7.11: the explanation is the first one of the cheapest ones that hold, and costs at most as much as the faults that were made.
func TestExplanationsByHand(t *testing.T) {
	random := fixedRandom()
	all := make(map[int][]api.SensorExplanation)
	for channels := 1; channels <= 4; channels++ {
		for _, options := range allOptions(channels, channels) {
			all[channels] = append(all[channels], explanation(options...))
		}
	}
	none, dear := 0, 0
	for range 600 {
		x := someTruth(random)
		faults := someFaults(random, len(x.Signals))
		measured := measuredBy(random, x, faults, x.Off)
		isDisturbed := random.IntN(4) == 0
		if isDisturbed {
			measured[random.IntN(len(measured))][0] += within(random, 6)
		}
		var want api.SensorExplanation
		least, wantError := 0, api.ErrNone
		for _, is := range all[len(measured)] {
			if cost := costByHand(is); holdsByHand(x, measured, is) && (wantError == api.ErrNone || cost < least) {
				want, least, wantError = is, cost, api.OK
			}
		}
		is, cost, e := sensor.ExplanationOf(x, measured)
		mustBe(t, x, is, e, want, wantError)
		mustBe(t, x, cost, e, least, wantError)
		if !isDisturbed && (e != api.OK || cost > costByHand(faults)) {
			t.Error(x, measured, faults, cost, e)
		}
		if e != api.OK {
			none++
			continue
		}
		if cost > 2 {
			dear++
		}
		checked, e := sensor.CheckExplanation(x, measured, is)
		mustBe(t, x, checked, e, cost, api.OK)
	}
	if none < 20 || dear < 50 {
		t.Error(none, dear)
	}
}

// P7.3, P7.11: CheckExplanation accepts exactly what holds, with its cost.
func TestCheckedByHand(t *testing.T) {
	random := fixedRandom()
	accepted, refused := 0, 0
	for range 3000 {
		x := someTruth(random)
		measured := measuredBy(random, x, someFaults(random, len(x.Signals)), x.Off)
		is := someFaults(random, len(x.Signals))
		cost, e := sensor.CheckExplanation(x, measured, is)
		if holdsByHand(x, measured, is) {
			accepted++
			mustBe(t, x, cost, e, costByHand(is), api.OK)
			continue
		}
		refused++
		mustFail(t, x, cost, e, api.ErrProof)
	}
	if accepted < 300 || refused < 300 {
		t.Error(accepted, refused)
	}
}

// P7.11: channels that measured the truth are explained with the cost 0.
func TestTrueChannels(t *testing.T) {
	random := fixedRandom()
	for range 500 {
		x := someTruth(random)
		var options []option
		for signal := range x.Signals {
			options = append(options, straight(signal))
		}
		is, cost, e := sensor.ExplanationOf(x, measuredBy(random, x, explanation(options...), x.Off))
		mustBe(t, x, is, e, explanation(options...), api.OK)
		mustBe(t, x, cost, e, 0, api.OK)
	}
}

// P7.12: channels that are exactly the truth, exchanged and reversed, are undone to the truth, but for signals that no channel has.
func TestUndoneByHand(t *testing.T) {
	random := fixedRandom()
	for range 1000 {
		x := someTruth(random)
		faults := someFaults(random, len(x.Signals))
		measured := measuredBy(random, x, faults, 0)
		want := zeros(len(x.Signals), len(x.Signals[0]))
		for _, source := range faults.Sources {
			if source >= 0 {
				want[source] = x.Signals[source]
			}
		}
		is, e := sensor.Undone(measured, faults)
		mustBe(t, x, is, e, want, api.OK)
	}
}
