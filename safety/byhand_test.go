package safety_test

import (
	"math/big"
	"slices"

	"ductility/api"
)

// bitOf tells whether a flag is set in a state.
func bitOf(state, flag int) bool {
	for range flag {
		state /= 2
	}
	return state%2 == 1
}

// holdsByHand tells whether a test holds in a state.
func holdsByHand(t api.SafetyTest, state int) bool {
	for _, flag := range t.On {
		if !bitOf(state, flag) {
			return false
		}
	}
	for _, flag := range t.Off {
		if bitOf(state, flag) {
			return false
		}
	}
	return true
}

// nextByHand returns the next state by an action.
func nextByHand(a api.SafetyAction, state int) int {
	next, power := 0, 1
	for flag := range api.MaxSafetyFlags {
		isSet := bitOf(state, flag)
		if slices.Contains(a.Does.On, flag) {
			isSet = true
		}
		if slices.Contains(a.Does.Off, flag) {
			isSet = false
		}
		if isSet {
			next += power
		}
		power *= 2
	}
	return next
}

// statesOf returns how many states a machine has.
func statesOf(m api.SafetyMachine) int {
	count := 1
	for range m.Flags {
		count *= 2
	}
	return count
}

// isHarmByHand tells whether a state is a harm.
func isHarmByHand(m api.SafetyMachine, state int) bool {
	return slices.ContainsFunc(m.Harms, func(t api.SafetyTest) bool { return holdsByHand(t, state) })
}

// possibleByHand returns all actions that are possible in a state.
func possibleByHand(m api.SafetyMachine, state int) []int {
	var possible []int
	for i, a := range m.Actions {
		if holdsByHand(a.Needs, state) {
			possible = append(possible, i)
		}
	}
	return possible
}

// reachedByHand returns all reached states but for what barred actions lead to: those of all states are found until no more are.
func reachedByHand(m api.SafetyMachine, state int, barred []int) []int {
	isReached := make([]bool, statesOf(m))
	isReached[state] = true
	for isMore := true; isMore; {
		isMore = false
		for s := range isReached {
			if !isReached[s] || isHarmByHand(m, s) {
				continue
			}
			for _, i := range possibleByHand(m, s) {
				next := nextByHand(m.Actions[i], s)
				if !slices.Contains(barred, i) && !isReached[next] {
					isReached[next], isMore = true, true
				}
			}
		}
	}
	var reached []int
	for s, is := range isReached {
		if is {
			reached = append(reached, s)
		}
	}
	return reached
}

// distancesByHand returns how many actions lead from each state to a harm at least, -1 if none do.
func distancesByHand(m api.SafetyMachine) []int {
	distances := slices.Repeat(ints(-1), statesOf(m))
	for s := range distances {
		if isHarmByHand(m, s) {
			distances[s] = 0
		}
	}
	for distance := range distances {
		for s := range distances {
			if distances[s] >= 0 {
				continue
			}
			for _, i := range possibleByHand(m, s) {
				if distances[nextByHand(m.Actions[i], s)] == distance {
					distances[s] = distance + 1
				}
			}
		}
	}
	return distances
}

// harmByHand returns the harm from a state, and whether there is one: always the first action that leads nearer.
func harmByHand(m api.SafetyMachine, state int) ([]int, bool) {
	distances := distancesByHand(m)
	if distances[state] < 0 {
		return nil, false
	}
	var actions []int
	for distances[state] > 0 {
		for _, i := range possibleByHand(m, state) {
			next := nextByHand(m.Actions[i], state)
			if distances[next] == distances[state]-1 {
				actions = append(actions, i)
				state = next
				break
			}
		}
	}
	return actions, true
}

// isSafeByHand tells whether no harm is reached without barred actions.
func isSafeByHand(m api.SafetyMachine, state int, barred []int) bool {
	return !slices.ContainsFunc(reachedByHand(m, state, barred), func(s int) bool { return isHarmByHand(m, s) })
}

// barredByHand returns the barred actions for a state that is no harm: the best of all sets.
func barredByHand(m api.SafetyMachine, state int) []int {
	var best []int
	isFound := false
	for number := range 1 << len(m.Actions) {
		var barred []int
		for i := range m.Actions {
			if bitOf(number, i) {
				barred = append(barred, i)
			}
		}
		isBetter := !isFound || len(barred) < len(best) || len(barred) == len(best) && slices.Compare(barred, best) < 0
		if isBetter && isSafeByHand(m, state, barred) {
			best, isFound = barred, true
		}
	}
	return best
}

// size returns the size of a number.
func size(n int) int { return max(n, -n) }

// pushedByHand returns a motion after a push, and whether the push is permitted.
func pushedByHand(x api.SafetyLimits, s api.SafetyMotion, push int) (api.SafetyMotion, bool) {
	jerk := push - s.Push
	s.Speed += push
	s.Place += s.Speed
	s.Push = push
	return s, size(push) <= x.Push && size(jerk) <= x.Jerk && size(s.Speed) <= x.Speed && x.Way.Lo <= s.Place && s.Place <= x.Way.Hi
}

// motionsOf returns all motions within limits.
func motionsOf(x api.SafetyLimits) []api.SafetyMotion {
	var all []api.SafetyMotion
	for place := x.Way.Lo; place <= x.Way.Hi; place++ {
		for speed := -x.Speed; speed <= x.Speed; speed++ {
			for push := -x.Push; push <= x.Push; push++ {
				all = append(all, api.SafetyMotion{Place: place, Speed: speed, Push: push})
			}
		}
	}
	return all
}

// ticksByHand returns how many ticks a stop from each motion has at least; those that cannot stop are not in it.
func ticksByHand(x api.SafetyLimits) map[api.SafetyMotion]int {
	ticks := map[api.SafetyMotion]int{}
	left := motionsOf(x)
	for tick, isMore := 0, true; isMore; tick++ {
		var stopping, others []api.SafetyMotion
		for _, s := range left {
			isStopping := tick == 0 && s.Speed == 0 && s.Push == 0
			for push := -x.Push; push <= x.Push; push++ {
				next, isPermitted := pushedByHand(x, s, push)
				n, can := ticks[next]
				isStopping = isStopping || isPermitted && can && n == tick-1
			}
			if isStopping {
				stopping = append(stopping, s)
			} else {
				others = append(others, s)
			}
		}
		for _, s := range stopping {
			ticks[s] = tick
		}
		left, isMore = others, len(stopping) > 0
	}
	return ticks
}

// stopByHand returns the shortest stop from a motion that can stop: always the first push after which fewer ticks are left.
func stopByHand(x api.SafetyLimits, ticks map[api.SafetyMotion]int, s api.SafetyMotion) []int {
	var pushes []int
	for ticks[s] > 0 {
		for push := -x.Push; push <= x.Push; push++ {
			next, isPermitted := pushedByHand(x, s, push)
			if n, can := ticks[next]; isPermitted && can && n == ticks[s]-1 {
				pushes = append(pushes, push)
				s = next
				break
			}
		}
	}
	return pushes
}

// sharesByHand returns by which shares of a line a coordinate of it comes into a range and leaves it, and whether it ever is in it.
func sharesByHand(from, to int, x api.Range) (in, out *big.Rat, isIn bool) {
	in, out = big.NewRat(0, 1), big.NewRat(1, 1)
	way := int64(to - from)
	if way == 0 {
		return in, out, x.Lo <= from && from <= x.Hi
	}
	first, second := big.NewRat(int64(x.Lo-from), way), big.NewRat(int64(x.Hi-from), way)
	if way < 0 {
		first, second = second, first
	}
	if first.Cmp(in) > 0 {
		in = first
	}
	if second.Cmp(out) < 0 {
		out = second
	}
	return in, out, in.Cmp(out) <= 0
}

// touchesByHand tells whether a path touches one of some zones: whether a share of one of its lines is in both ranges.
func touchesByHand(zones []api.SafetyZone, path [][2]int) bool {
	for _, z := range zones {
		for i, at := range path {
			from := at
			if i > 0 {
				from = path[i-1]
			}
			inX, outX, isX := sharesByHand(from[0], at[0], z.X)
			inY, outY, isY := sharesByHand(from[1], at[1], z.Y)
			if isX && isY && inX.Cmp(outY) <= 0 && inY.Cmp(outX) <= 0 {
				return true
			}
		}
	}
	return false
}

// levelByHand returns how many gates are open.
func levelByHand(l []api.SafetyGate, signed []api.SafetySign) int {
	for gate, g := range l {
		persons, roles := map[string]int{}, map[string]int{}
		for _, x := range signed {
			if x.Gate == gate {
				persons[x.Person]++
				roles[x.Role]++
			}
		}
		for _, role := range g.Roles {
			if roles[role] == 0 {
				return gate
			}
		}
		if len(persons) < g.Signs {
			return gate
		}
	}
	return len(l)
}
