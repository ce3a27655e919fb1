package modal_test

import (
	"slices"
	"testing"

	"ductility/api"
	"ductility/modal"
)

// P6.5
func TestRangesErrors(t *testing.T) {
	good := list(to(1, 2), to(5, 6))
	for _, x := range allBadRanges() {
		common, e := modal.AgreedIn(x.l)
		mustFail(t, x.name, common, e, x.want)
		pair, e := modal.ContradictionOf(x.l)
		mustFail(t, x.name, pair, e, x.want)
		damaged, e := modal.DamagedIn(x.l, good)
		mustFail(t, x.name, damaged, e, x.want)
		damaged, e = modal.DamagedIn(good, x.l)
		mustFail(t, x.name, damaged, e, x.want)
		for _, y := range allBadRanges() {
			damaged, e := modal.DamagedIn(x.l, y.l)
			mustFail(t, x.name+" before "+y.name, damaged, e, x.want)
		}
	}
	for count := 1; count <= api.MaxModalRanges; count++ {
		damaged, e := modal.DamagedIn(good, slices.Repeat(list(to(3, 4)), count))
		if count == len(good) {
			mustBe(t, count, damaged, e, []int{0, 1}, api.OK)
		} else {
			mustFail(t, count, damaged, e, api.ErrClash)
		}
	}
}

// P6.5, example 7
func TestAgreement(t *testing.T) {
	const end = api.MaxModalEnd
	for _, x := range []struct {
		name   string
		l      []api.Range
		common api.Range
		e      api.Errno
		pair   []int
	}{
		{"example", list(to(1, 4), to(3, 6), to(5, 8)), api.Range{}, api.ErrClash, []int{0, 2}},
		{"one", list(to(-3, 4)), to(-3, 4), api.OK, nil},
		{"one number", list(to(7, 7)), to(7, 7), api.OK, nil},
		{"the same", list(to(1, 4), to(1, 4)), to(1, 4), api.OK, nil},
		{"an end", list(to(1, 4), to(4, 6)), to(4, 4), api.OK, nil},
		{"the other end", list(to(4, 6), to(1, 4)), to(4, 4), api.OK, nil},
		{"next to each other", list(to(1, 4), to(5, 6)), api.Range{}, api.ErrClash, []int{0, 1}},
		{"in another one", list(to(1, 9), to(3, 4), to(0, 5)), to(3, 4), api.OK, nil},
		{"the last two", list(to(0, 9), to(0, 5), to(0, 3), to(4, 9)), api.Range{}, api.ErrClash, []int{2, 3}},
		{"the second with the last one", list(to(0, 9), to(0, 3), to(3, 6), to(4, 9)), api.Range{}, api.ErrClash, []int{1, 3}},
		{"several", list(to(5, 5), to(4, 5), to(3, 4), to(0, 0)), api.Range{}, api.ErrClash, []int{0, 2}},
		{"below 0", list(to(-9, -3), to(-5, 2), to(-4, -1)), to(-4, -3), api.OK, nil},
		{"the greatest", list(to(-end, end), to(-end, end)), to(-end, end), api.OK, nil},
		{"the ends", list(to(-end, end-1), to(end, end)), api.Range{}, api.ErrClash, []int{0, 1}},
		{"twelve", slices.Repeat(list(to(0, 2)), 12), to(0, 2), api.OK, nil},
		{"the twelfth", append(slices.Repeat(list(to(0, 2)), 11), to(3, 3)), api.Range{}, api.ErrClash, []int{0, 11}},
		{"at 0", list(to(-1, 0), to(0, 1)), to(0, 0), api.OK, nil},
	} {
		common, e := modal.AgreedIn(x.l)
		mustBe(t, x.name, common, e, x.common, x.e)
		pair, e := modal.ContradictionOf(x.l)
		mustBe(t, x.name, pair, e, x.pair, noneUnless(x.e != api.OK))
	}
}

// haveCommon tells whether ranges from 0 to 40 have a number in common, and returns the smallest and the greatest one.
func haveCommon(l ...api.Range) (api.Range, bool) {
	var common []int
	for n := range 41 {
		if !slices.ContainsFunc(l, func(r api.Range) bool { return n < r.Lo || n > r.Hi }) {
			common = append(common, n)
		}
	}
	if len(common) == 0 {
		return api.Range{}, false
	}
	return to(common[0], common[len(common)-1]), true
}

// P6.5, P6.14: what ranges have in common, number by number; those that agree have no contradiction.
func TestAgreementByHand(t *testing.T) {
	random := fixedRandom()
	for range 2000 {
		l := someRanges(random, 1+random.IntN(4))
		want, agree := haveCommon(l...)
		common, e := modal.AgreedIn(l)
		wantError := api.OK
		if !agree {
			wantError = api.ErrClash
		}
		mustBe(t, l, common, e, want, wantError)
		var wantPair []int
		for i, a := range l {
			for k, b := range l {
				if _, agree := haveCommon(a, b); !agree && i < k && wantPair == nil {
					wantPair = []int{i, k}
				}
			}
		}
		pair, e := modal.ContradictionOf(l)
		mustBe(t, l, pair, e, wantPair, noneUnless(!agree))
	}
}

// P6.5, example 7
func TestDamaged(t *testing.T) {
	for _, x := range []struct {
		name          string
		before, after []api.Range
		want          []int
	}{
		{"example", list(to(10, 12), to(30, 33)), list(to(11, 14), to(20, 29)), []int{1}},
		{"above, too", list(to(10, 12), to(20, 29)), list(to(13, 14), to(30, 33)), []int{0, 1}},
		{"the same", list(to(10, 12), to(30, 33)), list(to(10, 12), to(30, 33)), nil},
		{"an end", list(to(10, 12), to(30, 33)), list(to(12, 14), to(20, 30)), nil},
		{"one", list(to(1, 1)), list(to(0, 0)), []int{0}},
		{"other modes do not matter", list(to(10, 12), to(30, 33)), list(to(30, 33), to(10, 12)), []int{0, 1}},
		{"the first one and the last one", list(to(1, 1), to(2, 2), to(3, 3)), list(to(2, 2), to(2, 2), to(2, 2)), []int{0, 2}},
	} {
		damaged, e := modal.DamagedIn(x.before, x.after)
		mustBe(t, x.name, damaged, e, x.want, api.OK)
	}
}

// P6.5, P6.14: modes whose ranges have a number in common are not damaged.
func TestDamagedByHand(t *testing.T) {
	random := fixedRandom()
	for range 2000 {
		count := 1 + random.IntN(api.MaxModalRanges)
		before, after := someRanges(random, count), someRanges(random, count)
		var want []int
		for mode, r := range before {
			if _, agree := haveCommon(r, after[mode]); !agree {
				want = append(want, mode)
			}
		}
		damaged, e := modal.DamagedIn(before, after)
		mustBe(t, []any{before, after}, damaged, e, want, api.OK)
	}
}
