package safety_test

import (
	"math"
	"math/rand/v2"
	"slices"
	"testing"

	"ductility/api"
	"ductility/safety"
)

// zone returns a zone.
func zone(loX, hiX, loY, hiY int) api.SafetyZone {
	return api.SafetyZone{X: to(loX, hiX), Y: to(loY, hiY)}
}

// zones returns zones.
func zones(l ...api.SafetyZone) []api.SafetyZone { return l }

// path returns positions, of each both coordinates.
func path(numbers ...int) [][2]int {
	var l [][2]int
	for x := range slices.Chunk(numbers, 2) {
		l = append(l, [2]int{x[0], x[1]})
	}
	return l
}

// exampleZone returns the zone of the example 7.
func exampleZone() api.SafetyZone { return zone(2, 4, 2, 4) }

// touch is a path among zones, and whether it touches one.
type touch struct {
	name    string
	zones   []api.SafetyZone
	path    [][2]int
	touches bool
}

// mustTouch reports paths that are not clear although they touch no zone, or the other way; forwards and backwards (P9.13).
func mustTouch(t *testing.T, cases []touch) {
	t.Helper()
	for _, y := range cases {
		for range 2 {
			count, e := safety.ClearOf(y.zones, y.path)
			if y.touches {
				mustFail(t, y.name, count, e, api.ErrClash)
			} else {
				mustBe(t, y.name, count, e, len(y.path), api.OK)
			}
			slices.Reverse(y.path)
		}
	}
}

// P9.6, edge cases: a path of one position touches a zone that contains it.
func TestPositions(t *testing.T) {
	mustTouch(t, []touch{
		{"a position inside", zones(exampleZone()), path(3, 3), true},
		{"a position on a border", zones(exampleZone()), path(2, 3), true},
		{"a position on the upper border", zones(exampleZone()), path(3, 4), true},
		{"a position on a corner", zones(exampleZone()), path(4, 2), true},
		{"a position outside", zones(exampleZone()), path(1, 3), false},
		{"a position above", zones(exampleZone()), path(3, 5), false},
		{"a position beside a corner", zones(exampleZone()), path(5, 5), false},
		{"twice the same position inside", zones(exampleZone()), path(3, 3, 3, 3), true},
		{"twice the same position outside", zones(exampleZone()), path(1, 1, 1, 1), false},
	})
}

// P9.6, example 7
func TestLines(t *testing.T) {
	mustTouch(t, []touch{
		{"example", zones(exampleZone()), path(0, 0, 5, 1), false},
		{"the corner", zones(exampleZone()), path(0, 0, 2, 2), true},
		{"inside", zones(exampleZone()), path(3, 3, 3, 4), true},
		{"through", zones(exampleZone()), path(0, 3, 9, 3), true},
		{"through, upwards", zones(exampleZone()), path(3, 0, 3, 9), true},
		{"through, obliquely", zones(exampleZone()), path(0, 1, 6, 5), true},
		{"along a border", zones(exampleZone()), path(0, 4, 9, 4), true},
		{"along what goes on from a border", zones(exampleZone()), path(5, 4, 9, 4), false},
		{"to a border", zones(exampleZone()), path(0, 3, 2, 3), true},
		{"before a border", zones(exampleZone()), path(0, 3, 1, 3), false},
		{"above", zones(exampleZone()), path(0, 5, 9, 5), false},
		{"to the left", zones(exampleZone()), path(1, 0, 1, 9), false},
		{"past a corner", zones(exampleZone()), path(0, 3, 3, 0), false},
		{"by a corner", zones(exampleZone()), path(0, 4, 4, 0), true},
		{"by the other corner", zones(exampleZone()), path(3, 5, 5, 3), true},
		{"past the other corner", zones(exampleZone()), path(3, 6, 6, 3), false},
		{"by the upper left corner", zones(exampleZone()), path(0, 2, 3, 5), true},
		{"past the upper left corner", zones(exampleZone()), path(0, 3, 3, 6), false},
		{"by the lower right corner", zones(exampleZone()), path(3, 1, 5, 3), true},
		{"past the lower right corner", zones(exampleZone()), path(3, 0, 6, 3), false},
		{"a corner behind the end", zones(exampleZone()), path(0, 0, 1, 1), false},
		{"a corner before the beginning", zones(exampleZone()), path(5, 5, 6, 6), false},
		{"a diagonal", zones(exampleZone()), path(0, 0, 9, 9), true},
		{"the second line", zones(exampleZone()), path(0, 0, 0, 3, 9, 3), true},
		{"the last line", zones(exampleZone()), path(0, 0, 0, 9, 9, 9, 3, 3), true},
		{"around", zones(exampleZone()), path(0, 0, 0, 9, 9, 9, 9, 0, 0, 0), false},
		{"not from the end to the beginning", zones(exampleZone()), path(0, 3, 0, 9, 9, 9, 9, 3), false},
	})
}

// P9.6, edge cases: an empty path is clear.
func TestZones(t *testing.T) {
	mustTouch(t, []touch{
		{"nothing", nil, nil, false},
		{"an empty path", zones(exampleZone()), path(), false},
		{"no zones", zones(), path(3, 3, 4, 4), false},
		{"the second zone", zones(zone(50, 60, 50, 60), exampleZone()), path(0, 0, 2, 2), true},
		{"the last zone", append(make([]api.SafetyZone, 7), exampleZone()), path(1, 1, 2, 2), true},
		{"a zone of one position", zones(zone(1, 1, 1, 1)), path(0, 0, 2, 2), true},
		{"a zone of one position beside", zones(zone(1, 1, 1, 1)), path(0, 0, 2, 3), false},
		{"a zone of one position behind", zones(zone(3, 3, 3, 3)), path(0, 0, 2, 2), false},
		{"a zone of one position, at it", zones(zone(3, 3, 3, 3)), path(3, 3), true},
		{"a zone that is a line", zones(zone(0, 9, 5, 5)), path(3, 0, 3, 9), true},
		{"a zone that is a line, along it", zones(zone(0, 9, 5, 5)), path(-4, 5, 0, 5), true},
		{"a zone that is a line, before it", zones(zone(0, 9, 5, 5)), path(-4, 5, -1, 5), false},
		{"the greatest zone", zones(zone(-1000, 1000, -1000, 1000)), path(0, 0), true},
		{"far positions", zones(zone(0, 0, 0, 0)), path(-1000, -1000, 1000, 999), false},
		{"far positions through 0", zones(zone(0, 0, 0, 0)), path(-1000, 999, 1000, -999), true},
		{"far positions past a corner", zones(zone(-1000, -1, 1, 1000)), path(-1000, -999, 999, 1000), false},
		{"the greatest path", zones(exampleZone()), slices.Repeat(path(0, 0), 20), false},
		{"the last line of the greatest path", zones(exampleZone()), append(slices.Repeat(path(0, 0), 19), [2]int{3, 3}), true},
	})
}

// P9.6: all errors of zones come before those of the path, and these before ErrClash.
func TestErrorsOfZones(t *testing.T) {
	inside := path(3, 3)
	for _, y := range []struct {
		name  string
		zones []api.SafetyZone
		path  [][2]int
		want  api.Errno
	}{
		{"nine zones", make([]api.SafetyZone, 9), nil, api.ErrLarge},
		{"nine zones with errors", slices.Repeat(zones(zone(1001, 0, 0, 0)), 9), path(9999, 0), api.ErrLarge},
		{"very many zones", make([]api.SafetyZone, 1000000), inside, api.ErrLarge},
		{"lower end of X", zones(zone(-1001, 0, 1, 0)), inside, api.ErrRange},
		{"upper end of X", zones(zone(0, 1001, 0, 0)), inside, api.ErrRange},
		{"lower end of Y", zones(zone(1, 0, -1001, 0)), inside, api.ErrRange},
		{"upper end of Y", zones(zone(1, 0, 0, 1001)), inside, api.ErrRange},
		{"all ends", zones(zone(math.MaxInt, math.MinInt, math.MaxInt, math.MinInt)), inside, api.ErrRange},
		{"the smallest of X", zones(zone(math.MinInt, 0, 0, 0)), inside, api.ErrRange},
		{"the smallest of Y", zones(zone(0, 0, math.MinInt, 0)), inside, api.ErrRange},
		{"the greatest of Y", zones(zone(0, 0, 0, math.MaxInt)), inside, api.ErrRange},
		{"order of X", zones(zone(1, 0, 0, 0), zone(1001, 0, 0, 0)), inside, api.ErrOrder},
		{"order of Y", zones(zone(0, 0, 1, 0)), inside, api.ErrOrder},
		{"order of the last one", append(make([]api.SafetyZone, 7), zone(0, 1, 0, -1)), inside, api.ErrOrder},
		{"range of the last one", append(make([]api.SafetyZone, 7), zone(0, 1, 0, 1001)), inside, api.ErrRange},
		{"range of the first one", zones(zone(0, 1001, 0, 0), zone(1, 0, 0, 0)), inside, api.ErrRange},
		{"order before the path", zones(zone(1, 0, 0, 0)), path(9999, 0), api.ErrOrder},
		{"order before too many positions", zones(zone(1, 0, 0, 0)), make([][2]int, 21), api.ErrOrder},
		{"twenty-one positions", nil, make([][2]int, 21), api.ErrLarge},
		{"twenty-one positions with errors", zones(exampleZone()), slices.Repeat(path(1001, 0), 21), api.ErrLarge},
		{"very many positions", zones(exampleZone()), make([][2]int, 1000000), api.ErrLarge},
		{"x above", nil, path(1001, 0), api.ErrRange},
		{"x below", nil, path(-1001, 0), api.ErrRange},
		{"y above", nil, path(0, 1001), api.ErrRange},
		{"y below", nil, path(0, -1001), api.ErrRange},
		{"the greatest", nil, path(0, 0, math.MaxInt, 0), api.ErrRange},
		{"the smallest", nil, path(0, 0, 0, math.MinInt), api.ErrRange},
		{"the last position", nil, append(make([][2]int, 19), [2]int{0, 1001}), api.ErrRange},
		{"a position before a clash", zones(exampleZone()), path(3, 3, 1001, 0), api.ErrRange},
	} {
		count, e := safety.ClearOf(y.zones, y.path)
		mustFail(t, y.name, count, e, y.want)
	}
}

// someZones returns so many zones whose places are not greater in size than a number.
func someZones(random *rand.Rand, count, size int) []api.SafetyZone {
	var l []api.SafetyZone
	for range count {
		x, otherX, y, otherY := within(random, size), within(random, size), within(random, size), within(random, size)
		if random.IntN(4) == 0 {
			otherX = x
		}
		l = append(l, zone(min(x, otherX), max(x, otherX), min(y, otherY), max(y, otherY)))
	}
	return l
}

// somePath returns so many positions.
func somePath(random *rand.Rand, count, size int) [][2]int {
	var l [][2]int
	for range count {
		l = append(l, [2]int{within(random, size), within(random, size)})
	}
	return l
}

// P9.6, P9.13: by hand; backwards it is the same, with a further zone no path becomes clear, and no position of a clear path is in a zone.
func TestClearByHand(t *testing.T) {
	counts := map[bool]int{}
	random := fixedRandom()
	for i := range 20000 {
		size := []int{2, 4, 9, 1000}[i%4]
		all := someZones(random, random.IntN(3), size)
		positions := somePath(random, random.IntN(4), size)
		touches := touchesByHand(all, positions)
		counts[touches]++
		wantCount, want := len(positions), api.OK
		if touches {
			wantCount, want = 0, api.ErrClash
		}
		count, e := safety.ClearOf(all, positions)
		mustBe(t, all, count, e, wantCount, want)
		more, e := safety.ClearOf(append(someZones(random, 1, size), all...), positions)
		if touches {
			mustFail(t, all, more, e, api.ErrClash)
		}
		slices.Reverse(positions)
		count, e = safety.ClearOf(all, positions)
		mustBe(t, all, count, e, wantCount, want)
		for _, at := range positions {
			for _, z := range all {
				isIn := z.X.Lo <= at[0] && at[0] <= z.X.Hi && z.Y.Lo <= at[1] && at[1] <= z.Y.Hi
				if isIn && !touches {
					t.Error("inside", z, at)
				}
			}
		}
	}
	if counts[true] < 2000 || counts[false] < 2000 {
		t.Error(counts)
	}
}
