package modal_test

import (
	"slices"
	"testing"

	"ductility/api"
	"ductility/modal"
)

// P6.4: a decay with an error has it in all functions.
func TestDecayErrors(t *testing.T) {
	for _, x := range badDecays() {
		crossings, e := modal.CrossingsIn(x.x)
		mustFail(t, x.name, crossings, e, x.want)
		swings, e := modal.SwingsIn(x.x)
		mustFail(t, x.name, swings, e, x.want)
		period, e := modal.PeriodIn(x.x)
		mustFail(t, x.name, period, e, x.want)
		ratio, e := modal.RatioIn(x.x)
		mustFail(t, x.name, ratio, e, x.want)
	}
}

// P6.4, example 6 and edge cases
func TestDecays(t *testing.T) {
	const most = api.MaxModalSample
	none := api.Span{}
	for _, x := range []struct {
		name              string
		x                 api.ModalDecay
		crossings, swings []api.Range
		period, ratio     api.Span
	}{
		{"example", exampleDecay(), list(to(0, 1), to(4, 6), to(8, 10)), list(to(6, 10), to(3, 7)), span(7, 2, 5, 1), span(3, 10, 7, 6)},
		{"of the whole", decayOf(0, -5, 5, -5, 5), list(to(0, 1), to(2, 3)), list(to(5, 5)), span(1, 1, 3, 1), none},
		{"Off as great as all samples", decayOf(8, exampleDecay().Samples...), nil, nil, none, none},
		{"Off less by 1", decayOf(7, -8, 8, 0, -8, 8), list(to(0, 1), to(3, 4)), list(to(1, 15)), span(2, 1, 4, 1), none},
		{"begins above", decayOf(1, 3, 2, -2, 4, -1, -2, 0, 1, 2), list(to(2, 3), to(5, 8)), list(to(3, 5)), span(2, 1, 6, 1), none},
		{"above alone", decayOf(0, 1, 2, 3), nil, nil, none, none},
		{"below alone", decayOf(0, -1, -2, -3), nil, nil, none, none},
		{"downwards", decayOf(0, 5, -5), nil, nil, none, none},
		{"one sample", decayOf(0, 5), nil, nil, none, none},
		{"nothing is sure", decayOf(2, -2, 2, -2, 2), nil, nil, none, none},
		{"0 is not above or below", decayOf(0, 0, -1, 0, 0, 1, 0), list(to(1, 4)), nil, none, none},
		{"the last one below, the first one above", decayOf(1, -5, -2, 0, -1, 2, 5, 0), list(to(1, 4)), nil, none, none},
		{"above twice", decayOf(1, -5, 5, 0, 5, -5, -1, 5, 5), list(to(0, 1), to(4, 6)), list(to(4, 6)), span(3, 1, 6, 1), none},
		{"not surely below in between", decayOf(3, -4, 4, -3, 4, -4, 4), list(to(0, 1), to(4, 5)), list(to(1, 7)), span(3, 1, 5, 1), none},
		{"three periods", decayOf(0, -1, 1, -1, 1, -1, 1, 0, 0, -1, 0, 1), list(to(0, 1), to(2, 3), to(4, 5), to(8, 10)), list(to(1, 1), to(1, 1), to(1, 1)), span(7, 3, 10, 3), span(1, 1, 1, 1)},
		{"the greatest in between", decayOf(1, -9, 4, 9, 3, -9, 6, 2, 7, -9, 2, 1, -9), list(to(0, 1), to(4, 5), to(8, 9)), list(to(8, 10), to(6, 8)), span(7, 2, 9, 2), span(3, 5, 1, 1)},
		{"swings are those from one crossing to the next", decayOf(0, 9, -1, 2, -1, 3, -1, 9), list(to(1, 2), to(3, 4), to(5, 6)), list(to(2, 2), to(3, 3)), span(3, 2, 5, 2), span(3, 2, 3, 2)},
		{"growing", decayOf(1, -9, 2, -9, 4, -9, 8, -9, 2), list(to(0, 1), to(2, 3), to(4, 5), to(6, 7)), list(to(1, 3), to(3, 5), to(7, 9)), span(5, 3, 7, 3), span(7, 3, 9, 1)},
		{"the greatest samples", decayOf(0, -most, most, -most, 1, -most, most), list(to(0, 1), to(2, 3), to(4, 5)), list(to(most, most), to(1, 1)), span(3, 2, 5, 2), span(1, most, 1, most)},
		{"the greatest Off", decayOf(most, -most, most, -most, most), nil, nil, none, none},
		{"a great Off", decayOf(most-1, -most, most, -most, most, 0, -most, most), list(to(0, 1), to(2, 3), to(5, 6)), list(to(1, 2*most-1), to(1, 2*most-1)), span(2, 1, 3, 1), span(1, 2*most-1, 2*most-1, 1)},
	} {
		crossings, e := modal.CrossingsIn(x.x)
		mustBe(t, x.name, crossings, e, x.crossings, api.OK)
		swings, e := modal.SwingsIn(x.x)
		mustBe(t, x.name, swings, e, x.swings, api.OK)
		period, e := modal.PeriodIn(x.x)
		mustBe(t, x.name, period, e, x.period, noneUnless(len(x.crossings) >= 2))
		ratio, e := modal.RatioIn(x.x)
		mustBe(t, x.name, ratio, e, x.ratio, noneUnless(len(x.swings) >= 2))
	}
}

// noneUnless returns ErrNone, or OK if there are enough.
func noneUnless(enough bool) api.Errno {
	if enough {
		return api.OK
	}
	return api.ErrNone
}

// crossingsByHand returns all crossings as they are defined: a sample surely below, one surely above, and neither in between.
func crossingsByHand(x api.ModalDecay) []api.Range {
	isSure := func(sample int) bool { return sample > x.Off || sample < -x.Off }
	var l []api.Range
	for lo, below := range x.Samples {
		for hi := lo + 1; hi < len(x.Samples); hi++ {
			if below < -x.Off && x.Samples[hi] > x.Off && !slices.ContainsFunc(x.Samples[lo+1:hi], isSure) {
				l = append(l, to(lo, hi))
			}
		}
	}
	return l
}

// P6.4
func TestDecaysByHand(t *testing.T) {
	random := fixedRandom()
	periods, ratios := 0, 0
	for range 3000 {
		x := someDecay(random)
		want := crossingsByHand(x)
		crossings, e := modal.CrossingsIn(x)
		mustBe(t, x, crossings, e, want, api.OK)
		var wantSwings []api.Range
		for i, c := range want {
			if i > 0 {
				greatest := slices.Max(x.Samples[want[i-1].Hi : c.Lo+1])
				wantSwings = append(wantSwings, to(greatest-x.Off, greatest+x.Off))
			}
		}
		swings, e := modal.SwingsIn(x)
		mustBe(t, x, swings, e, wantSwings, api.OK)
		wantPeriod, wantRatio := api.Span{}, api.Span{}
		if n := len(want) - 1; n > 0 {
			wantPeriod = api.Span{Lo: lowest(want[n].Lo-want[0].Hi, n), Hi: lowest(want[n].Hi-want[0].Lo, n)}
			periods++
		}
		if n := len(wantSwings) - 1; n > 0 {
			wantRatio = api.Span{Lo: lowest(wantSwings[n].Lo, wantSwings[0].Hi), Hi: lowest(wantSwings[n].Hi, wantSwings[0].Lo)}
			ratios++
		}
		period, e := modal.PeriodIn(x)
		mustBe(t, x, period, e, wantPeriod, noneUnless(len(want) > 1))
		ratio, e := modal.RatioIn(x)
		mustBe(t, x, ratio, e, wantRatio, noneUnless(len(wantSwings) > 1))
	}
	if periods < 500 || ratios < 500 {
		t.Error(periods, ratios)
	}
}

// trueOf returns a decay without errors whose samples differ from one by at most its Off, often by as much.
func trueOf(x api.ModalDecay, errorWithin func(off int) int) api.ModalDecay {
	var y api.ModalDecay
	for _, sample := range x.Samples {
		y.Samples = append(y.Samples, sample+errorWithin(x.Off))
	}
	return y
}

// isIn tells whether a quotient lies in a span.
func isIn(s api.Span, num, den int) bool {
	return s.Lo.Num*den <= num*s.Lo.Den && num*s.Hi.Den <= s.Hi.Num*den
}

// P6.13: crossings, periods, swings and ratios hold for every true decay.
func TestEveryTrueDecay(t *testing.T) {
	random := fixedRandom()
	for range 3000 {
		x := someDecay(random)
		y := trueOf(x, func(off int) int { return max(-off, min(off, within(random, 2*off))) })
		crossings, _ := modal.CrossingsIn(x)
		swings, _ := modal.SwingsIn(x)
		truth, e := modal.CrossingsIn(y)
		if e != api.OK {
			t.Fatal(y, e)
		}
		var found []api.Range
		for _, c := range crossings {
			i := slices.IndexFunc(truth, func(d api.Range) bool { return c.Lo <= d.Lo && d.Hi <= c.Hi })
			if i < 0 {
				t.Fatal(x, y, c, truth)
			}
			found = append(found, truth[i])
		}
		var greatest []int
		for i, r := range swings {
			most := slices.Max(y.Samples[crossings[i].Hi : crossings[i+1].Lo+1])
			if most < r.Lo || most > r.Hi {
				t.Fatal(x, y, i, r, most)
			}
			greatest = append(greatest, most)
		}
		if n := len(found) - 1; n > 0 {
			period, _ := modal.PeriodIn(x)
			first, last := found[0], found[n]
			for _, way := range []int{last.Lo - first.Lo, last.Lo - first.Hi, last.Hi - first.Lo, last.Hi - first.Hi} {
				if !isIn(period, way, n) {
					t.Fatal(x, y, period, way, n)
				}
			}
		}
		if n := len(greatest) - 1; n > 0 {
			if ratio, _ := modal.RatioIn(x); !isIn(ratio, greatest[n], greatest[0]) {
				t.Fatal(x, y, ratio, greatest)
			}
		}
	}
}
