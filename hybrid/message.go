package hybrid

import (
	"iter"

	"ductility/api"
)

// exchange is messages and a clock without errors.
type exchange struct {
	api.HybridClock
	messages []api.HybridMessage
}

// wait is from when on a step waits, up to when, and whether this is the end of it, as its reply came.
type wait struct {
	from, to int
	isOver   bool
}

// exchangeOf returns messages with their clock, or the first error of them.
func exchangeOf(l []api.HybridMessage, y api.HybridClock) (exchange, api.Errno) {
	_, e := CheckMessages(l)
	isUnknown := len(l) > 0 && y.Until < l[len(l)-1].At
	if e = firstOf(e, clockError(y), when(isUnknown, api.ErrBreak)); e != api.OK {
		return exchange{}, e
	}
	return exchange{y, l}, api.OK
}

// waits yields the steps that have a command, each with its wait.
func (x exchange) waits() iter.Seq2[int, wait] {
	return func(yield func(step int, w wait) bool) {
		for i, message := range x.messages {
			if message.Kind != api.HybridCommand {
				continue
			}
			w := wait{message.At, x.Until, false}
			if reply := i + 1; reply < len(x.messages) {
				w = wait{message.At, x.messages[reply].At, true}
			}
			if !yield(message.Step, w) {
				return
			}
		}
	}
}

// isLate tells whether a step waits too long.
func (x exchange) isLate(w wait) bool { return w.to-w.from > x.Deadline }

// CheckMessages returns the error of messages, with the index of the message.
func CheckMessages(l []api.HybridMessage) (int, api.Errno) {
	if len(l) > api.MaxHybridMessages {
		return 0, api.ErrLarge
	}
	return checkItems(l, func(i int, message api.HybridMessage) api.Errno {
		isOutside := !areWithin(0, api.MaxHybridSteps, message.Step) || !areWithin(0, api.MaxTick, message.At)
		// As all messages before it are in order, only one kind and one step can follow.
		isNext := message.Kind == i%api.HybridKinds && message.Step == i/api.HybridKinds
		return firstOf(
			when(!areWithin(0, api.HybridKinds-1, message.Kind), api.ErrKind),
			when(isOutside, api.ErrRange),
			when(i > 0 && message.At < l[i-1].At, api.ErrOrder),
			when(!isNext, api.ErrGap))
	})
}

// LateIn returns all late steps.
func LateIn(l []api.HybridMessage, y api.HybridClock) ([]int, api.Errno) {
	checked, e := exchangeOf(l, y)
	if e != api.OK {
		return nil, e
	}
	var late []int
	for step, w := range checked.waits() {
		if checked.isLate(w) {
			late = append(late, step)
		}
	}
	return late, api.OK
}

// HeldAt returns the first tick at which a test is held.
func HeldAt(l []api.HybridMessage, y api.HybridClock) (int, api.Errno) {
	checked, e := exchangeOf(l, y)
	if e != api.OK {
		return 0, e
	}
	for _, w := range checked.waits() {
		if checked.isLate(w) {
			return w.from + y.Deadline + 1, api.OK
		}
	}
	return 0, api.ErrNone
}

// CountIn returns how many steps count.
func CountIn(l []api.HybridMessage, y api.HybridClock) (int, api.Errno) {
	checked, e := exchangeOf(l, y)
	if e != api.OK {
		return 0, e
	}
	count := 0
	for _, w := range checked.waits() {
		if checked.isLate(w) || !w.isOver {
			break
		}
		count++
	}
	return count, api.OK
}
