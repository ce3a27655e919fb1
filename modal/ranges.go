package modal

import "ductility/api"

// agreed returns what ranges have in common, and whether they agree.
func agreed(first api.Range, further ...api.Range) (api.Range, bool) {
	common := first
	for _, r := range further {
		common = api.Range{Lo: max(common.Lo, r.Lo), Hi: min(common.Hi, r.Hi)}
	}
	return common, common.Lo <= common.Hi
}

// AgreedIn returns what ranges have in common.
func AgreedIn(l []api.Range) (api.Range, api.Errno) {
	if e := rangesError(l); e != api.OK {
		return api.Range{}, e
	}
	common, agree := agreed(l[0], l[1:]...)
	if !agree {
		return api.Range{}, api.ErrClash
	}
	return common, api.OK
}

// ContradictionOf returns the first two ranges that do not agree.
func ContradictionOf(l []api.Range) ([]int, api.Errno) {
	if e := rangesError(l); e != api.OK {
		return nil, e
	}
	for i, first := range l {
		for k := i + 1; k < len(l); k++ {
			if _, agree := agreed(first, l[k]); !agree {
				return []int{i, k}, api.OK
			}
		}
	}
	return nil, api.ErrNone
}

// DamagedIn returns all modes that are damaged between two lists of ranges.
func DamagedIn(before, after []api.Range) ([]int, api.Errno) {
	isUneven := len(before) != len(after)
	if e := firstOf(rangesError(before), rangesError(after), when(isUneven, api.ErrClash)); e != api.OK {
		return nil, e
	}
	var damaged []int
	for mode, r := range before {
		if _, agree := agreed(r, after[mode]); !agree {
			damaged = append(damaged, mode)
		}
	}
	return damaged, api.OK
}
