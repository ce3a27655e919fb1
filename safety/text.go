package safety

import (
	"slices"
	"strconv"
	"strings"

	"ductility/api"
)

// The parts of the string of a machine, the words of that of a gate at least, and the digits of a number of tests and of gates at most.
const (
	machineParts = 3
	gateWords    = 2
	testDigits   = 2
	gateDigits   = 3
)

// The signs before a flag that must be set or is set, and before one that must not be or is cleared.
const (
	onSign  = "+"
	offSign = "-"
)

// textOf returns the texts of items, with a sign between them.
func textOf[T any](items []T, sign string, ofItem func(item T) string) string {
	var texts []string
	for _, item := range items {
		texts = append(texts, ofItem(item))
	}
	return strings.Join(texts, sign)
}

// formatTest returns the string of a test.
func formatTest(t api.SafetyTest) string {
	return textOf(t.On, "", func(i int) string { return onSign + strconv.Itoa(i) }) +
		textOf(t.Off, "", func(i int) string { return offSign + strconv.Itoa(i) })
}

// formatAction returns the string of an action.
func formatAction(a api.SafetyAction) string {
	return a.Name + ":" + formatTest(a.Needs) + ">" + formatTest(a.Does)
}

// formatGate returns the string of a gate.
func formatGate(g api.SafetyGate) string {
	words := append([]string{g.Name, strconv.Itoa(g.Signs)}, g.Roles...)
	return strings.Join(words, " ")
}

// FormatMachine returns the string of a machine.
func FormatMachine(m api.SafetyMachine) string {
	return strings.Join(m.Flags, ",") + "/" + textOf(m.Actions, ";", formatAction) + "/" + textOf(m.Harms, ",", formatTest)
}

// FormatGates returns the string of gates.
func FormatGates(l []api.SafetyGate) string { return textOf(l, ";", formatGate) }

// numberOf returns the number of a word of at most so many digits, or ErrSyntax.
func numberOf(word string, digits int) (int, api.Errno) {
	if len(word) == 0 || len(word) > digits || len(word) > 1 && word[0] == '0' {
		return 0, api.ErrSyntax
	}
	n := 0
	for _, digit := range []byte(word) {
		if !isDigit(digit) {
			return 0, api.ErrSyntax
		}
		n = 10*n + int(digit-'0')
	}
	return n, api.OK
}

// partsOf returns the parts of a text with a sign between them. The empty text has none.
func partsOf(text, sign string) []string {
	if text == "" {
		return nil
	}
	return strings.Split(text, sign)
}

// listOf returns the items of texts, and the first error.
func listOf[T any](texts []string, itemOf func(text string) (T, api.Errno)) ([]T, api.Errno) {
	var items []T
	_, e := checkItems(texts, func(_ int, text string) api.Errno {
		item, e := itemOf(text)
		items = append(items, item)
		return e
	})
	return items, e
}

// parseFlag returns the flag of a text, or ErrSyntax.
func parseFlag(text string) (string, api.Errno) { return text, when(text == "", api.ErrSyntax) }

// parseIndexes returns the indexes of a text with a sign before each, or ErrSyntax.
func parseIndexes(text, sign string) ([]int, api.Errno) {
	words := partsOf(text, sign)
	if len(words) == 0 {
		return nil, api.OK
	}
	if words[0] != "" {
		return nil, api.ErrSyntax
	}
	return listOf(words[1:], func(word string) (int, api.Errno) { return numberOf(word, testDigits) })
}

// parseTest returns the test of a text, or ErrSyntax.
func parseTest(text string) (api.SafetyTest, api.Errno) {
	head, tail := text, ""
	if i := strings.Index(text, offSign); i >= 0 {
		head, tail = text[:i], text[i:]
	}
	on, e := parseIndexes(head, onSign)
	off, offError := parseIndexes(tail, offSign)
	return api.SafetyTest{On: on, Off: off}, firstOf(e, offError)
}

// parseHarm returns the harm of a text, or ErrSyntax.
func parseHarm(text string) (api.SafetyTest, api.Errno) {
	harm, e := parseTest(text)
	return harm, firstOf(when(text == "", api.ErrSyntax), e)
}

// parseAction returns the action of a text, or ErrSyntax.
func parseAction(text string) (api.SafetyAction, api.Errno) {
	// Without a ":" nothing has a ">", and a second one of either is in no test: all of these are malformed.
	name, rest, _ := strings.Cut(text, ":")
	head, tail, isWhole := strings.Cut(rest, ">")
	needs, e := parseTest(head)
	does, doesError := parseTest(tail)
	e = firstOf(when(name == "" || !isWhole, api.ErrSyntax), e, doesError)
	return api.SafetyAction{Name: name, Needs: needs, Does: does}, e
}

// parseGate returns the gate of a text, or ErrSyntax.
func parseGate(text string) (api.SafetyGate, api.Errno) {
	words := strings.Split(text, " ")
	if len(words) < gateWords || slices.Contains(words, "") {
		return api.SafetyGate{}, api.ErrSyntax
	}
	signs, e := numberOf(words[1], gateDigits)
	return api.SafetyGate{Name: words[0], Roles: words[gateWords:], Signs: signs}, e
}

// ParseMachine returns the machine of a string.
func ParseMachine(s string) (api.SafetyMachine, api.Errno) {
	if len(s) > api.MaxString {
		return api.SafetyMachine{}, api.ErrLarge
	}
	parts := strings.Split(s, "/")
	if len(parts) != machineParts {
		return api.SafetyMachine{}, api.ErrSyntax
	}
	names, e := listOf(partsOf(parts[0], ","), parseFlag)
	actions, actionsError := listOf(partsOf(parts[1], ";"), parseAction)
	harms, harmsError := listOf(partsOf(parts[2], ","), parseHarm)
	m := api.SafetyMachine{Flags: names, Actions: actions, Harms: harms}
	_, machineError := CheckMachine(m)
	if e = firstOf(e, actionsError, harmsError, machineError); e != api.OK {
		return api.SafetyMachine{}, e
	}
	return m, api.OK
}

// ParseGates returns the gates of a string.
func ParseGates(s string) ([]api.SafetyGate, api.Errno) {
	if len(s) > api.MaxString {
		return nil, api.ErrLarge
	}
	l, e := listOf(strings.Split(s, ";"), parseGate)
	_, gatesError := CheckGates(l)
	if e = firstOf(e, gatesError); e != api.OK {
		return nil, e
	}
	return l, api.OK
}
