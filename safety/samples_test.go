package safety_test

import (
	"math"
	"math/rand/v2"
	"reflect"
	"slices"
	"strings"
	"testing"

	"ductility/api"
)

// to returns a range.
func to(lo, hi int) api.Range { return api.Range{Lo: lo, Hi: hi} }

// ints returns numbers.
func ints(numbers ...int) []int { return numbers }

// test returns the test of a string of signs, each before one digit.
func test(text string) api.SafetyTest {
	var t api.SafetyTest
	for i := 0; i < len(text); i += 2 {
		flag := int(text[i+1] - '0')
		if text[i] == '+' {
			t.On = append(t.On, flag)
		} else {
			t.Off = append(t.Off, flag)
		}
	}
	return t
}

// action returns an action.
func action(name, needs, does string) api.SafetyAction {
	return api.SafetyAction{Name: name, Needs: test(needs), Does: test(does)}
}

// tests returns the tests of strings.
func tests(texts ...string) []api.SafetyTest {
	var l []api.SafetyTest
	for _, text := range texts {
		l = append(l, test(text))
	}
	return l
}

// exampleMachine returns the machine of the examples.
func exampleMachine() api.SafetyMachine {
	return api.SafetyMachine{
		Flags: []string{"key", "door", "run"},
		Actions: []api.SafetyAction{
			action("open", "-2", "+1"), action("shut", "", "-1"), action("turn", "", "+0"), action("start", "+0-1", "+2"), action("halt", "", "-2"),
		},
		Harms: tests("+1+2"),
	}
}

// openMachine returns that of the example 2, whose action open needs nothing.
func openMachine() api.SafetyMachine {
	return with(exampleMachine(), func(m *api.SafetyMachine) { m.Actions[0].Needs = api.SafetyTest{} })
}

// greatMachine returns a machine with as many flags, actions and harms as are permitted. Each action sets a flag after that of the one before.
func greatMachine() api.SafetyMachine {
	m := api.SafetyMachine{Flags: []string{"a", "b", "c", "d", "e", "f", "g", "h"}, Harms: tests("+0+1+2+3+4+5+6+7", "-6+7", "-5+6", "-4+5")}
	for i := range 8 {
		flag := string(rune('0' + i))
		needs := ""
		if i > 0 {
			needs = "+" + string(rune('0'+i-1))
		}
		m.Actions = append(m.Actions, action("set-"+flag, needs, "+"+flag))
	}
	m.Actions = append(m.Actions, action("nothing", "", ""), action("clear", "", "-0-1-2-3-4-5-6-7"))
	return m
}

// with returns a value that is changed.
func with[T any](x T, change func(x *T)) T {
	change(&x)
	return x
}

// areSame tells whether values are the same; nil and empty slices are.
func areSame(a, b any) bool { return areAlike(reflect.ValueOf(a), reflect.ValueOf(b)) }

// areAlike tells whether values of one type, without pointers, are the same.
func areAlike(a, b reflect.Value) bool {
	switch a.Kind() {
	case reflect.Slice, reflect.Array:
		if a.Len() != b.Len() {
			return false
		}
		for i := range a.Len() {
			if !areAlike(a.Index(i), b.Index(i)) {
				return false
			}
		}
		return true
	case reflect.Struct:
		for i := range a.NumField() {
			if !areAlike(a.Field(i), b.Field(i)) {
				return false
			}
		}
		return true
	}
	return a.Equal(b)
}

// mustBe reports a value or an error that is not as wanted.
func mustBe[T any](t *testing.T, name any, is T, e api.Errno, want T, wantError api.Errno) {
	t.Helper()
	if !areSame(is, want) || e != wantError {
		t.Errorf("%v: %v, %d, want %v, %d", name, is, e, want, wantError)
	}
}

// mustFail reports an error that is not as wanted, or a value that is something.
func mustFail[T any](t *testing.T, name any, is T, e, want api.Errno) {
	t.Helper()
	var zero T
	mustBe(t, name, is, e, zero, want)
}

// mustStay reports what has changed.
func mustStay(t *testing.T, name string, is, was any) {
	t.Helper()
	if !areSame(is, was) {
		t.Error(name, "changed:", is, was)
	}
}

// badNames lists strings that are not names.
func badNames() []string {
	return []string{
		"", "1", "1a", "-", "-a", "a_b", "a b", " a", "a ", "a\n", "a\x00", "\x00", "a.", ".a", "a+", "@", "@a", "[a", "`a", "{a", "/a", ":a", "a@", "a[", "a`", "a{",
		"a/", "a:", "a,", "a;", "a>", "\u00e9", "a\u00e9", "\u0131", "\uff21", "a\u0660", "\xff", "a\xff", "abcdefghijklm", "a------------", "a000000000000", strings.Repeat("a", 100000),
	}
}

// goodNames lists names.
func goodNames() []string {
	return []string{"a", "z", "A", "Z", "a-", "a0", "z9", "Z-9", "a--1", "azAZ", "abcdefghijkl", "A-----------", "a00000000009", "open", "OPEN"}
}

// badMachine is a machine with an error, and what CheckMachine says of it.
type badMachine struct {
	name  string
	m     api.SafetyMachine
	index int
	want  api.Errno
}

// changed returns a machine with an error, made from that of the examples.
func changed(name string, index int, want api.Errno, change func(m *api.SafetyMachine)) badMachine {
	return badMachine{name, with(exampleMachine(), change), index, want}
}

// letters returns so many names.
func letters(count int) []string {
	var names []string
	for i := range count {
		names = append(names, string(rune('a'+i)))
	}
	return names
}

// badSizes lists machines with too few or too many parts; all of them have errors that are listed later, too.
func badSizes() []badMachine {
	many := func(count int) []api.SafetyAction { return make([]api.SafetyAction, count) }
	return []badMachine{
		{"nothing", api.SafetyMachine{}, 0, api.ErrShape},
		{"empty", api.SafetyMachine{Flags: []string{}, Actions: []api.SafetyAction{}, Harms: []api.SafetyTest{}}, 0, api.ErrShape},
		changed("no flags", 0, api.ErrShape, func(m *api.SafetyMachine) { m.Flags = nil }),
		{"no flags, too many actions", api.SafetyMachine{Actions: many(11), Harms: make([]api.SafetyTest, 5)}, 0, api.ErrShape},
		{"nine flags", api.SafetyMachine{Flags: make([]string, 9)}, 0, api.ErrLarge},
		changed("nine good flags", 0, api.ErrLarge, func(m *api.SafetyMachine) { m.Flags = letters(9) }),
		{"eleven actions", api.SafetyMachine{Flags: make([]string, 3), Actions: many(11)}, 0, api.ErrLarge},
		{"five harms", api.SafetyMachine{Flags: make([]string, 3), Actions: many(3), Harms: make([]api.SafetyTest, 5)}, 0, api.ErrLarge},
		changed("five good harms", 0, api.ErrLarge, func(m *api.SafetyMachine) { m.Harms = make([]api.SafetyTest, 5) }),
		{"very many", api.SafetyMachine{Flags: make([]string, 100000), Actions: many(100000)}, 0, api.ErrLarge},
	}
}

// badTests lists tests for three flags with an error; most of them have errors that are listed later, too.
func badTests() map[string]badTest {
	long := make([]int, 100000)
	return map[string]badTest{
		"no such flag":                 {test("+3+3-0-0"), api.ErrMissing},
		"no such flag behind":          {test("+0+9"), api.ErrMissing},
		"no such flag to clear":        {test("-3"), api.ErrMissing},
		"no such flag, smaller":        {api.SafetyTest{On: ints(2, -1)}, api.ErrMissing},
		"no such flag, below 0":        {api.SafetyTest{Off: ints(-1)}, api.ErrMissing},
		"the greatest":                 {api.SafetyTest{On: ints(math.MaxInt)}, api.ErrMissing},
		"the smallest":                 {api.SafetyTest{Off: ints(math.MinInt)}, api.ErrMissing},
		"twice":                        {test("+1+1-9"), api.ErrOrder},
		"descending":                   {test("+2+1+9"), api.ErrOrder},
		"descending behind":            {test("+0+2+1-2"), api.ErrOrder},
		"to clear twice":               {test("+0-1-1"), api.ErrOrder},
		"to clear descending":          {test("+1-1-0"), api.ErrOrder},
		"order before no such flag":    {test("+1+0-9"), api.ErrOrder},
		"missing behind":               {test("+0-1-9-2"), api.ErrMissing},
		"both":                         {test("+0-0"), api.ErrClash},
		"one of both":                  {test("+0+2-1-2"), api.ErrClash},
		"all of both":                  {test("+0+1+2-0-1-2"), api.ErrClash},
		"very many":                    {api.SafetyTest{On: long, Off: long}, api.ErrOrder},
		"very many, no such flags":     {api.SafetyTest{Off: slices.Repeat(ints(5), 100000)}, api.ErrMissing},
		"one behind the last flag":     {test("+0+1+2+3"), api.ErrMissing},
		"one behind the last to clear": {test("-0-1-2-3"), api.ErrMissing},
	}
}

// badTest is a test with an error.
type badTest struct {
	x    api.SafetyTest
	want api.Errno
}

// goodTests lists tests for three flags.
func goodTests() []api.SafetyTest {
	return tests("", "+0", "-0", "+2", "-2", "+0-1", "+1-0", "+0+2-1", "-0-1-2", "+0+1+2", "+2-0-1")
}

// badMachines lists all errors of machines; most of them have errors that are listed later, or stand in later parts, too.
func badMachines() []badMachine {
	l := badSizes()
	for _, name := range badNames() {
		l = append(l,
			changed("flag "+name, 0, api.ErrName, func(m *api.SafetyMachine) { m.Flags[0], m.Flags[1] = name, name }),
			changed("last flag "+name, 2, api.ErrName, func(m *api.SafetyMachine) { m.Flags[2], m.Actions[0].Name = name, "" }),
			changed("action "+name, 0, api.ErrName, func(m *api.SafetyMachine) { m.Actions[0].Name, m.Actions[0].Needs = name, test("+9") }),
			changed("last action "+name, 4, api.ErrName, func(m *api.SafetyMachine) { m.Actions[4].Name, m.Harms = name, tests("+9") }))
	}
	l = append(l,
		changed("flag twice", 1, api.ErrExists, func(m *api.SafetyMachine) { m.Flags = []string{"a", "a", "-"} }),
		changed("last flag twice", 2, api.ErrExists, func(m *api.SafetyMachine) { m.Flags[2], m.Actions = "key", make([]api.SafetyAction, 1) }),
		changed("action twice", 1, api.ErrExists, func(m *api.SafetyMachine) { m.Actions[1].Name, m.Actions[1].Does = "open", test("+9") }),
		changed("last action twice", 4, api.ErrExists, func(m *api.SafetyMachine) { m.Actions[4].Name, m.Harms = "shut", tests("+0-0") }))
	for name, b := range badTests() {
		l = append(l,
			changed("needs "+name, 0, b.want, func(m *api.SafetyMachine) {
				m.Actions[0].Needs, m.Actions[0].Does, m.Actions[1].Name = b.x, test("+0-0"), ""
			}),
			changed("last needs "+name, 4, b.want, func(m *api.SafetyMachine) { m.Actions[4].Needs, m.Harms = b.x, tests("+9") }),
			changed("does "+name, 3, b.want, func(m *api.SafetyMachine) { m.Actions[3].Does, m.Actions[4].Needs = b.x, test("+9") }),
			changed("harm "+name, 0, b.want, func(m *api.SafetyMachine) { m.Harms = []api.SafetyTest{b.x, test("+0-0")} }),
			changed("last harm "+name, 3, b.want, func(m *api.SafetyMachine) { m.Harms = append(tests("", "+1", "-0"), b.x) }))
	}
	return l
}

// goodMachines lists machines, those at the ends of what is permitted among them.
func goodMachines() []api.SafetyMachine {
	l := []api.SafetyMachine{
		exampleMachine(), openMachine(), greatMachine(), {Flags: []string{"a"}}, {Flags: letters(8)},
		// An action may be called as a flag is.
		{Flags: []string{"open", "OPEN"}, Actions: []api.SafetyAction{action("open", "", ""), action("OPEN", "", "")}},
		{Flags: []string{"a"}, Actions: []api.SafetyAction{action("on", "-0", "+0"), action("off", "+0", "-0")}, Harms: tests("+0", "+0", "-0", "-0")},
	}
	for _, name := range goodNames() {
		l = append(l, with(exampleMachine(), func(m *api.SafetyMachine) { m.Flags[1], m.Actions[4].Name = name, "x"+name[1:] }))
	}
	for _, x := range goodTests() {
		l = append(l, with(exampleMachine(), func(m *api.SafetyMachine) { m.Actions[2].Needs, m.Actions[2].Does = x, x }))
		if len(x.On)+len(x.Off) > 0 {
			l = append(l, with(exampleMachine(), func(m *api.SafetyMachine) { m.Harms = append(m.Harms, x) }))
		}
	}
	return l
}

// badStates lists numbers that are no states of the machine of the examples.
func badStates() []int { return ints(-1, 8, 9, 255, 256, math.MaxInt, math.MinInt) }

// fixedRandom returns the same numbers in each run.
func fixedRandom() *rand.Rand { return rand.New(rand.NewPCG(9, 9)) }

// within returns a number that is not greater in size than another one.
func within(random *rand.Rand, size int) int { return random.IntN(2*size+1) - size }

// someTest returns a test for so many flags, of which about one of so many is in it.
func someTest(random *rand.Rand, flags, rare int) api.SafetyTest {
	var t api.SafetyTest
	for flag := range flags {
		switch random.IntN(2 * rare) {
		case 0:
			t.On = append(t.On, flag)
		case 1:
			t.Off = append(t.Off, flag)
		}
	}
	return t
}

// someMachine returns a machine. Its harms have flags.
func someMachine(random *rand.Rand) api.SafetyMachine {
	flags := 1 + random.IntN(api.MaxSafetyFlags)
	m := api.SafetyMachine{Flags: letters(flags)}
	for i := range random.IntN(api.MaxSafetyActions + 1) {
		m.Actions = append(m.Actions, api.SafetyAction{Name: letters(26)[25-i], Needs: someTest(random, flags, 3), Does: someTest(random, flags, 3)})
	}
	for range random.IntN(api.MaxSafetyHarms + 1) {
		harm := someTest(random, flags, 2)
		if len(harm.On)+len(harm.Off) == 0 {
			harm.On = ints(flags - 1)
		}
		m.Harms = append(m.Harms, harm)
	}
	return m
}
