package hybrid_test

import (
	"slices"
	"testing"

	"ductility/api"
	"ductility/hybrid"
)

// P8.5
func TestCheckMessages(t *testing.T) {
	for _, l := range [][]api.HybridMessage{
		nil, {}, exampleMessages(), messagesOf(0, 0, 0), messagesOf(0, 0, 7, 1, 0, 7), exchanged(make([]int, 60)...),
		messagesOf(0, 0, api.MaxTick, 1, 0, api.MaxTick, 0, 1, api.MaxTick), exchanged(slices.Repeat([]int{7}, 59)...),
	} {
		index, e := hybrid.CheckMessages(l)
		mustBe(t, l, index, e, 0, api.OK)
	}
	for _, b := range allBadMessages() {
		index, e := hybrid.CheckMessages(b.l)
		mustBe(t, b.name, index, e, b.index, b.want)
	}
}

// P8.5: of messages in order none can be left out or stand twice.
func TestGaps(t *testing.T) {
	l := exchanged(1, 2, 3, 4, 5, 6, 7)
	for i := range l {
		index, e := hybrid.CheckMessages(slices.Delete(slices.Clone(l), i, i+1))
		if i == len(l)-1 {
			mustBe(t, i, index, e, 0, api.OK)
		} else {
			mustBe(t, i, index, e, i, api.ErrGap)
		}
		index, e = hybrid.CheckMessages(slices.Insert(slices.Clone(l), i, l[i]))
		mustBe(t, i, index, e, i+1, api.ErrGap)
	}
}

// P8.5, example 7, and edge cases
func TestLateSteps(t *testing.T) {
	l := exampleMessages()
	for _, y := range []struct {
		name  string
		l     []api.HybridMessage
		y     api.HybridClock
		late  []int
		held  int
		count int
	}{
		{"example", l, clock(5, 40), []int{1, 2}, 26, 1},
		{"a tick before the last one is late", l, clock(5, 35), []int{1}, 26, 1},
		{"the tick at which the last one is late", l, clock(5, 36), []int{1, 2}, 26, 1},
		{"at once", l, clock(5, 30), []int{1}, 26, 1},
		{"a shorter deadline", l, clock(3, 40), []int{0, 1, 2}, 14, 0},
		{"as long as the first step", l, clock(4, 30), []int{1}, 25, 1},
		{"as long as the second step", l, clock(9, 39), nil, 0, 2},
		{"almost as long as the second step", l, clock(8, 30), []int{1}, 29, 1},
		{"the last one alone", l, clock(9, 40), []int{2}, 40, 2},
		{"long", l, clock(api.MaxHybridWait, 40), nil, 0, 2},
		{"no deadline", l, clock(0, 30), []int{0, 1}, 11, 0},
		{"no messages", nil, clock(0, 0), nil, 0, 0},
		{"no messages for long", nil, clock(0, api.MaxTick), nil, 0, 0},
		{"a reply at once", exchanged(10, 10), clock(0, 10), nil, 0, 1},
		{"a reply at once, and long ago", exchanged(10, 10), clock(0, 1000), nil, 0, 1},
		{"a reply a tick later", exchanged(10, 11), clock(0, 11), []int{0}, 11, 0},
		{"no reply at once", exchanged(10), clock(0, 10), nil, 0, 0},
		{"no reply a tick later", exchanged(10), clock(0, 11), []int{0}, 11, 0},
		{"the greatest deadline", exchanged(0), clock(api.MaxHybridWait, api.MaxHybridWait), nil, 0, 0},
		{"later than the greatest deadline", exchanged(0), clock(api.MaxHybridWait, api.MaxHybridWait+1), []int{0}, api.MaxHybridWait + 1, 0},
		{"the greatest tick", exchanged(0, 0, 0, api.MaxTick), clock(7, api.MaxTick), []int{1}, 8, 1},
		{"a reply in time after a late one", exchanged(0, 9, 9, 9, 10, 19, 20, 20), clock(3, 20), []int{0, 2}, 4, 0},
		{"a late one between", exchanged(0, 0, 1, 2, 2, 9, 9, 9), clock(1, 20), []int{2}, 4, 2},
	} {
		late, e := hybrid.LateIn(y.l, y.y)
		mustBe(t, y.name, late, e, y.late, api.OK)
		held, e := hybrid.HeldAt(y.l, y.y)
		if len(y.late) == 0 {
			mustFail(t, y.name, held, e, api.ErrNone)
		} else {
			mustBe(t, y.name, held, e, y.held, api.OK)
		}
		count, e := hybrid.CountIn(y.l, y.y)
		mustBe(t, y.name, count, e, y.count, api.OK)
	}
}

// P8.5: the errors of the messages come before those of the clock, and ErrBreak after them.
func TestErrorsOfMessages(t *testing.T) {
	all := func(name any, l []api.HybridMessage, y api.HybridClock, want api.Errno) {
		t.Helper()
		late, e := hybrid.LateIn(l, y)
		mustFail(t, name, late, e, want)
		held, e := hybrid.HeldAt(l, y)
		mustFail(t, name, held, e, want)
		count, e := hybrid.CountIn(l, y)
		mustFail(t, name, count, e, want)
	}
	for _, b := range allBadMessages() {
		all(b.name, b.l, clock(5, api.MaxTick), b.want)
		all(b.name, b.l, clock(5, 0), b.want)
		all(b.name, b.l, clock(-1, -1), b.want)
	}
	for _, y := range badClocks() {
		all(y, exampleMessages(), y, api.ErrRange)
		all(y, nil, y, api.ErrRange)
	}
	all("until", exampleMessages(), clock(5, 29), api.ErrBreak)
	all("until 0", exchanged(1), clock(5, 0), api.ErrBreak)
	all("until before the reply", exchanged(0, 10), clock(20, 9), api.ErrBreak)
	all("until the last tick but one", exchanged(0, api.MaxTick), clock(20, api.MaxTick-1), api.ErrBreak)
}

// lateByHand returns the late steps, the first tick at which the test is held (0 if none is late), and how many steps count, tick by tick.
func lateByHand(l []api.HybridMessage, y api.HybridClock) ([]int, int, int) {
	commands, replies := map[int]int{}, map[int]int{}
	for _, m := range l {
		if m.Kind == api.HybridReply {
			replies[m.Step] = m.At
		} else {
			commands[m.Step] = m.At
		}
	}
	held, count := 0, 0
	late := map[int]bool{}
	for tick := range y.Until + 1 {
		for step := range len(commands) {
			reply, isReplied := replies[step]
			isWaiting := commands[step] <= tick && (!isReplied || reply >= tick)
			if !isWaiting || tick-commands[step] <= y.Deadline || late[step] {
				continue
			}
			late[step] = true
			if held == 0 {
				held = tick
			}
		}
	}
	for step := range len(commands) {
		if _, isReplied := replies[step]; late[step] || !isReplied {
			break
		}
		count++
	}
	var steps []int
	for step := range late {
		steps = append(steps, step)
	}
	slices.Sort(steps)
	return steps, held, count
}

// P8.5: tick by tick
func TestTickByTick(t *testing.T) {
	random := fixedRandom()
	for range 500 {
		l := someMessages(random)
		until := random.IntN(15)
		if len(l) > 0 {
			until += l[len(l)-1].At
		}
		y := clock(random.IntN(10), until)
		wantLate, wantHeld, wantCount := lateByHand(l, y)
		late, e := hybrid.LateIn(l, y)
		mustBe(t, l, late, e, wantLate, api.OK)
		count, e := hybrid.CountIn(l, y)
		mustBe(t, l, count, e, wantCount, api.OK)
		held, e := hybrid.HeldAt(l, y)
		if len(late) == 0 {
			mustFail(t, l, held, e, api.ErrNone)
		} else {
			mustBe(t, l, held, e, wantHeld, api.OK)
		}
	}
}

// P8.11: steps that count are not late; a longer deadline makes no further step late, and no fewer count.
func TestLongerDeadlines(t *testing.T) {
	random := fixedRandom()
	for range 300 {
		l := someMessages(random)
		until := api.MaxTick
		if len(l) > 0 && random.IntN(2) == 0 {
			until = l[len(l)-1].At
		}
		var before []int
		most := 0
		for deadline := range 15 {
			late, e := hybrid.LateIn(l, clock(deadline, until))
			if e != api.OK || deadline > 0 && slices.ContainsFunc(late, func(step int) bool { return !slices.Contains(before, step) }) {
				t.Error(l, deadline, before, late, e)
			}
			count, e := hybrid.CountIn(l, clock(deadline, until))
			if e != api.OK || count < most || len(late) > 0 && late[0] < count || 2*count > len(l) {
				t.Error(l, deadline, most, count, e)
			}
			before, most = late, count
		}
	}
}
