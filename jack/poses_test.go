package jack_test

import (
	"math"
	"slices"
	"testing"

	"ductility/api"
	"ductility/jack"
)

// P1.2, example 1
func TestPoses(t *testing.T) {
	r, pose := exampleRig(), api.JackWay{3, -2, 1, 0, 5, 4}
	if l := mustExtend(t, r, pose); !slices.Equal(l, []int{3, -2, 1, 0, 5, 4, 1, -3}) {
		t.Error(l)
	}
	if i, n, e := jack.MarginOf(r, pose); i != 4 || n != 15 || e != api.OK {
		t.Error(i, n, e)
	}
	if is, e := jack.IsPermitted(r, pose); !is || e != api.OK {
		t.Error(is, e)
	}
}

// P1.2: a pose beyond its limit is an error, even if it is that of one part alone.
func TestPoseErrors(t *testing.T) {
	r := exampleRig()
	for _, n := range []int{1001, -1001, math.MinInt, math.MaxInt} {
		for part := range 6 {
			var pose api.JackWay
			pose[part] = n
			if l, e := jack.ExtensionsOf(r, pose); len(l) != 0 || e != api.ErrRange {
				t.Error(pose, l, e)
			}
			if i, m, e := jack.MarginOf(r, pose); i != 0 || m != 0 || e != api.ErrRange {
				t.Error(pose, i, m, e)
			}
			if is, e := jack.IsPermitted(r, pose); is || e != api.ErrRange {
				t.Error(pose, is, e)
			}
		}
	}
	if l := mustExtend(t, r, api.JackWay{1000, -1000}); !slices.Equal(l[:2], []int{1000, -1000}) {
		t.Error(l)
	}
}

// P1.2
func TestMargins(t *testing.T) {
	r := exampleRig()
	if i, n, e := jack.MarginOf(r, api.JackWay{0, 21}); i != 1 || n != -1 || e != api.OK {
		t.Error("out of a stroke", i, n, e)
	}
	if i, n, e := jack.MarginOf(r, api.JackWay{0, 0, -22}); i != 2 || n != -2 || e != api.OK {
		t.Error("out of a stroke at its other end", i, n, e)
	}
	if i, n, e := jack.MarginOf(r, api.JackWay{}); i != 0 || n != 20 || e != api.OK {
		t.Error("the first one of several", i, n, e)
	}
	r.Jacks[3].Stroke.Lo = -5
	if i, n, e := jack.MarginOf(r, api.JackWay{}); i != 3 || n != 5 || e != api.OK {
		t.Error("an end alone", i, n, e)
	}
}

// P1.2
func TestPermitted(t *testing.T) {
	r := exampleRig()
	for _, x := range []struct {
		pose api.JackWay
		want bool
	}{
		{api.JackWay{15, 5}, true},        // at the end of a limit, and of the stroke of the jack 6
		{api.JackWay{-15, -5}, true},      // at their other ends
		{api.JackWay{15, 6}, false},       // the jack 6 is out of its stroke
		{api.JackWay{0, 0, 0, 16}, false}, // a part is out of its limits
		{api.JackWay{0, 0, 0, 0, -16}, false},
		{api.JackWay{0, 0, 11, 0, 0, -10}, false},
	} {
		if is, e := jack.IsPermitted(r, x.pose); is != x.want || e != api.OK {
			t.Error(x.pose, is, e)
		}
	}
}

// P1.2, example 2
func TestRangesInBoxes(t *testing.T) {
	r := exampleRig()
	box := [6]api.Range{{Lo: 0, Hi: 2}, {Lo: -1, Hi: 1}, {Lo: 3, Hi: 3}}
	want := []api.Range{{Lo: 0, Hi: 2}, {Lo: -1, Hi: 1}, {Lo: 3, Hi: 3}, {}, {}, {}, {Lo: -1, Hi: 3}, {Lo: 3, Hi: 3}}
	if l, e := jack.RangesIn(r, box); !slices.Equal(l, want) || e != api.OK {
		t.Error(l, e)
	}
	box[5] = api.Range{Lo: -4, Hi: 1}
	if l, e := jack.RangesIn(r, box); len(l) != 8 || l[7] != (api.Range{Lo: 2, Hi: 7}) || e != api.OK {
		t.Error("a part of a direction below 0", l, e)
	}
	for _, x := range []struct {
		change func(box *[6]api.Range)
		want   api.Errno
	}{
		{func(box *[6]api.Range) { box[0] = api.Range{Lo: 1001, Hi: 1000}; box[1].Lo = 2 }, api.ErrRange},
		{func(box *[6]api.Range) { box[5].Hi = 1001 }, api.ErrRange},
		{func(box *[6]api.Range) { box[5].Lo = -1001 }, api.ErrRange},
		{func(box *[6]api.Range) { box[1] = api.Range{Lo: 2, Hi: 1}; box[2].Hi = 1001 }, api.ErrOrder},
	} {
		bad := box
		x.change(&bad)
		if l, e := jack.RangesIn(r, bad); len(l) != 0 || e != x.want {
			t.Error(bad, l, e)
		}
	}
}

// P1.2, example 2
func TestScales(t *testing.T) {
	r := exampleRig()
	for _, x := range []struct {
		way  api.JackWay
		want int
	}{
		{api.JackWay{1, 2}, 6},
		{api.JackWay{0, 2}, 7},
		{api.JackWay{16}, 0},
		{api.JackWay{1000, 1000}, 0},
		{api.JackWay{0, 0, 1, 0, 0, 1}, 10}, // the jack 7 has parts of both signs
		{api.JackWay{}, api.MaxJackPose},
	} {
		if n, e := jack.ScaleFor(r, x.way); n != x.want || e != api.OK {
			t.Error(x, n, e)
		}
	}
	if n, e := jack.ScaleFor(widestRig(), api.JackWay{1}); n != 100 || e != api.OK {
		t.Error(n, e)
	}
	r.Jacks[0].Stroke.Lo = -2
	if n, e := jack.ScaleFor(r, api.JackWay{1}); n != 2 || e != api.OK {
		t.Error("one end is nearer", n, e)
	}
}

// P1.2
func TestScaleErrors(t *testing.T) {
	r := exampleRig()
	r.Limits[2].Lo = 1
	for _, x := range []struct {
		way  api.JackWay
		want api.Errno
	}{
		{api.JackWay{0, -1}, api.ErrRange},
		{api.JackWay{0, 0, 0, 0, 0, 1001}, api.ErrRange},
		{api.JackWay{math.MinInt}, api.ErrRange},
		{api.JackWay{1}, api.ErrNone},
		{api.JackWay{}, api.ErrNone},
	} {
		if n, e := jack.ScaleFor(r, x.way); n != 0 || e != x.want {
			t.Error(x, n, e)
		}
	}
	r = exampleRig()
	r.Jacks[7].Stroke = api.Range{Lo: -3, Hi: -1}
	if n, e := jack.ScaleFor(r, api.JackWay{1}); n != 0 || e != api.ErrNone {
		t.Error("a stroke without 0", n, e)
	}
}

// P1.9
func TestPosesInBoxes(t *testing.T) {
	random := fixedRandom()
	for range 300 {
		r := someRig(random, 1+random.IntN(8))
		var box [6]api.Range
		var pose api.JackWay
		for i := range box {
			box[i] = someRange(random, api.MaxJackPose)
			pose[i] = box[i].Lo + random.IntN(box[i].Hi-box[i].Lo+1)
		}
		ranges, e := jack.RangesIn(r, box)
		if e != api.OK {
			t.Fatal(e)
		}
		for i, n := range mustExtend(t, r, pose) {
			if n < ranges[i].Lo || n > ranges[i].Hi {
				t.Fatal(r, box, pose, i, n)
			}
			if lo, hi := corners(r.Jacks[i].Direction, box); ranges[i] != (api.Range{Lo: lo, Hi: hi}) {
				t.Fatal(r, box, i, ranges[i])
			}
		}
	}
}

// corners returns the smallest and the greatest extension at a corner of a box.
func corners(direction api.JackWay, box [6]api.Range) (int, int) {
	lo, hi := math.MaxInt, math.MinInt
	for corner := range 64 {
		sum := 0
		for i := range 6 {
			end := box[i].Lo
			if corner>>i&1 == 1 {
				end = box[i].Hi
			}
			sum += direction[i] * end
		}
		lo, hi = min(lo, sum), max(hi, sum)
	}
	return lo, hi
}

// P1.9
func TestPosesOfScales(t *testing.T) {
	random := fixedRandom()
	for range 300 {
		r := someRig(random, 1+random.IntN(8))
		for i := range r.Jacks {
			r.Jacks[i].Stroke = api.Range{Lo: -random.IntN(201), Hi: random.IntN(201)}
		}
		for i := range r.Limits {
			r.Limits[i] = api.Range{Lo: -random.IntN(1001), Hi: random.IntN(1001)}
		}
		var way api.JackWay
		for i := range way {
			way[i] = random.IntN(4)
		}
		n, e := jack.ScaleFor(r, way)
		if e != api.OK || !areCornersPermitted(t, r, way, n) || n < api.MaxJackPose && areCornersPermitted(t, r, way, n+1) {
			t.Fatal(r, way, n, e)
		}
	}
}

// areCornersPermitted tells whether all poses are permitted whose parts are so many times those of a way, with either sign.
func areCornersPermitted(t *testing.T, r api.JackRig, way api.JackWay, times int) bool {
	t.Helper()
	for corner := range 64 {
		pose := way
		for i := range pose {
			pose[i] *= times * (1 - 2*(corner>>i&1))
		}
		is, e := jack.IsPermitted(r, pose)
		if e != api.OK && e != api.ErrRange {
			t.Fatal(e)
		}
		if !is {
			return false
		}
	}
	return true
}
