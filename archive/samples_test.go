package archive_test

import (
	"math/rand/v2"
	"reflect"
	"slices"
	"strconv"
	"strings"
	"sync"
	"testing"

	"ductility/api"
	"ductility/archive"
)

// The motions and the decays of tests: the peaks of the first motion are 2, 1 and 1, those of the other one 3, 2 and 4.
const (
	small = "10;1 -2 1"
	great = "5;2 0 -3 -1 1 1"
	early = "0;-5 5 -5 5"         // the period from 1 to 3
	wide  = "0;-5 5 0 -5 5"       // from 2 to 4: it has numbers in common with the first one
	late  = "0;-5 0 5 0 0 -5 5"   // from 3 to 6: the first one ends where it begins
	slow  = "0;-5 5 0 0 0 0 -5 5" // from 5 to 7
	half  = "1;-5 5 -5 5 -5 5"    // from 3/2 to 5/2
)

// test returns the test of a string of signs, each before one digit.
func test(text string) api.SafetyTest {
	var t api.SafetyTest
	for i := 0; i < len(text); i += 2 {
		flag := int(text[i+1] - '0')
		if text[i] == '+' {
			t.On = append(t.On, flag)
		} else {
			t.Off = append(t.Off, flag)
		}
	}
	return t
}

// action returns an action.
func action(name, needs, does string) api.SafetyAction {
	return api.SafetyAction{Name: name, Needs: test(needs), Does: test(does)}
}

// person returns a person.
func person(name string, role int) api.ArchivePerson {
	return api.ArchivePerson{Name: name, Role: role}
}

// channel returns a channel.
func channel(name string, gain, offset, den int) api.ArchiveChannel {
	return api.ArchiveChannel{Name: name, Line: api.SensorLine{Gain: gain, Offset: offset, Den: den}}
}

// gate returns a gate.
func gate(name string, signs int, roles ...string) api.SafetyGate {
	return api.SafetyGate{Name: name, Roles: roles, Signs: signs}
}

// exampleNet returns the net of the examples.
func exampleNet() api.ArchiveNet {
	return api.ArchiveNet{
		Persons:  []api.ArchivePerson{person("ann", api.ArchiveChief), person("bob", api.ArchiveOperator), person("zoe", api.ArchiveGuest)},
		Channels: []api.ArchiveChannel{channel("acc", 2, 0, 1)},
		Gates:    []api.SafetyGate{gate("low", 1, "chief"), gate("high", 2, "chief", "operator")},
		Machine: api.SafetyMachine{
			Flags:   []string{"key", "run"},
			Actions: []api.SafetyAction{action("turn", "", "+0"), action("start", "+0", "+1")},
			Harms:   []api.SafetyTest{test("+1-0")},
		},
		Permits: test("+0"),
		Spaces:  2,
	}
}

// exampleLog returns the log of the examples, up to the run that zoe has predicted.
func exampleLog() []api.ArchiveEntry {
	return entries("1 ann specimen wall 5", "2 bob put wall 0", "3 ann sign wall low", "4 zoe seal wall 98", "5 bob action turn")
}

// doneLog returns the log of the examples with the run.
func doneLog() []api.ArchiveEntry {
	return longer(exampleLog(), "6 bob begin wall 1 "+small, "7 bob record acc 3 -4", "8 bob decay "+early, "9 bob end")
}

// wideNet returns a net with persons of all roles, four channels and more actions. Runs are permitted always.
func wideNet() api.ArchiveNet {
	return api.ArchiveNet{
		Persons: []api.ArchivePerson{
			person("ann", api.ArchiveChief), person("bob", api.ArchiveOperator), person("eve", api.ArchiveEngineer),
			person("xia", api.ArchiveGuest), person("yan", api.ArchiveGuest), person("zoe", api.ArchiveGuest),
		},
		Channels: []api.ArchiveChannel{channel("acc", 2, 0, 1), channel("pos", -25, 15, 2), channel("flat", 0, 7, 3), channel("odd", 4, 2, 3)},
		Gates:    []api.SafetyGate{gate("low", 1, "chief"), gate("high", 2, "chief", "operator"), gate("top", 0, "engineer")},
		Machine: api.SafetyMachine{
			Flags: []string{"key", "run"},
			Actions: []api.SafetyAction{
				action("turn", "", "+0"), action("start", "+0", "+1"), action("pull", "", "-0"), action("halt", "+1", "-1"),
			},
			Harms: []api.SafetyTest{test("+1-0")},
		},
		Spaces: 4,
	}
}

// wideLog returns a log of the wide net: a wall that is ready, has a space and all signatures for all gates.
func wideLog() []api.ArchiveEntry {
	return entries("1 ann specimen wall 0", "1 bob put wall 1",
		"1 ann sign wall low", "1 ann sign wall high", "1 bob sign wall high", "1 eve sign wall top")
}

// run returns the texts of a run that is done.
func run(specimen string, level int, motion, channel, decay string) []string {
	return []string{"9 bob begin " + specimen + " " + strconv.Itoa(level) + " " + motion, "9 bob record " + channel, "9 bob decay " + decay, "9 bob end"}
}

// entry returns the entry of a tick, a person and a text with blanks between them.
func entry(s string) api.ArchiveEntry {
	parts := strings.SplitN(s, " ", 3)
	at, err := strconv.Atoi(parts[0])
	if err != nil || len(parts) < 3 {
		panic(s)
	}
	return api.ArchiveEntry{At: at, By: parts[1], Text: parts[2]}
}

// entries returns the entries of strings.
func entries(l ...string) []api.ArchiveEntry {
	var log []api.ArchiveEntry
	for _, s := range l {
		log = append(log, entry(s))
	}
	return log
}

// longer returns a log with further entries.
func longer(l []api.ArchiveEntry, further ...string) []api.ArchiveEntry {
	return slices.Concat(l, entries(further...))
}

// notes returns so many notes.
func notes(count int) []api.ArchiveEntry { return slices.Repeat(entries("1 bob note so"), count) }

// with returns a value that is changed.
func with[T any](x T, change func(x *T)) T {
	change(&x)
	return x
}

// areSame tells whether values are the same; nil and empty slices are.
func areSame(a, b any) bool { return areAlike(reflect.ValueOf(a), reflect.ValueOf(b)) }

// areAlike tells whether values of one type, without pointers, are the same.
func areAlike(a, b reflect.Value) bool {
	switch a.Kind() {
	case reflect.Slice, reflect.Array:
		if a.Len() != b.Len() {
			return false
		}
		for i := range a.Len() {
			if !areAlike(a.Index(i), b.Index(i)) {
				return false
			}
		}
		return true
	case reflect.Struct:
		for i := range a.NumField() {
			if !areAlike(a.Field(i), b.Field(i)) {
				return false
			}
		}
		return true
	}
	return a.Equal(b)
}

// mustBe reports a value or an error that is not as wanted.
func mustBe[T any](t *testing.T, name any, is T, e api.Errno, want T, wantError api.Errno) {
	t.Helper()
	if !areSame(is, want) || e != wantError {
		t.Errorf("%v: %v, %d, want %v, %d", name, is, e, want, wantError)
	}
}

// mustFail reports an error that is not as wanted, or a value that is something.
func mustFail[T any](t *testing.T, name any, is T, e, want api.Errno) {
	t.Helper()
	var zero T
	mustBe(t, name, is, e, zero, want)
}

// mustStay reports what has changed.
func mustStay(t *testing.T, name string, is, was any) {
	t.Helper()
	if !areSame(is, was) {
		t.Error(name, "changed:", is, was)
	}
}

// mustHold reports a log with an error.
func mustHold(t *testing.T, n api.ArchiveNet, l []api.ArchiveEntry) {
	t.Helper()
	index, e := archive.CheckLog(n, l)
	if index != 0 || e != api.OK {
		t.Fatal(l[index], e)
	}
}

// stateAfter returns the state of a log without an error.
func stateAfter(t *testing.T, n api.ArchiveNet, l []api.ArchiveEntry) api.ArchiveState {
	t.Helper()
	mustHold(t, n, l)
	s, e := archive.StateOf(n, l)
	if e != api.OK {
		t.Fatal(l, e)
	}
	return s
}

// badNames lists strings that are not names.
func badNames() []string {
	return []string{
		"", "1", "1a", "-", "-a", "a_b", "a b", " a", "a ", "a\n", "a\x00", "\x00", "a.", "@", "@a", "[a", "`a", "{a", "/a", ":a", "a@", "a[", "a`", "a{",
		"a/", "a:", "\u00e9", "a\u00e9", "\u0131", "\uff21", "a\u0660", "\xff", "a\xff", "abcdefghijklm", "a------------", "a000000000000", strings.Repeat("a", 100000),
	}
}

// badWords lists strings that are not names, but words of a text.
func badWords() []string {
	return slices.DeleteFunc(badNames(), func(name string) bool { return name == "" || len(name) > 100 || strings.ContainsAny(name, " \n") })
}

// goodNames lists names.
func goodNames() []string {
	return []string{"a", "z", "A", "Z", "a-", "a0", "z9", "Z-9", "a--1", "azAZ", "abcdefghijkl", "A-----------", "a00000000009", "note", "WALL"}
}

// badNet is a net with an error, and what CheckNet says of it.
type badNet struct {
	name  string
	n     api.ArchiveNet
	index int
	want  api.Errno
}

// changed returns a net with an error, made from the wide net.
func changed(name string, index int, want api.Errno, change func(n *api.ArchiveNet)) badNet {
	return badNet{name, with(wideNet(), change), index, want}
}

// fixedRandom returns the same numbers in each run.
func fixedRandom() *rand.Rand { return rand.New(rand.NewPCG(10, 10)) }

// oneOf returns one of some items.
func oneOf[T any](random *rand.Rand, items ...T) T { return items[random.IntN(len(items))] }

// someText returns a text, which often has an error.
func someText(random *rand.Rand) string {
	specimen := oneOf(random, "wall", "wall", "wall", "wall", "beam", "beam", "slab")
	number := strconv.Itoa(random.IntN(3))
	prediction := oneOf(random, "", "a", "a", "no crack")
	motion := oneOf(random, small, small, great, "10;1 2", "3;0 0")
	if random.IntN(50) == 0 {
		return "note " + prediction
	}
	if random.IntN(3) > 0 {
		return oneOf(random,
			"begin "+specimen+" "+strconv.Itoa(1+random.IntN(3))+" "+motion,
			"record "+oneOf(random, "acc", "pos", "odd")+" "+oneOf(random, "1 2 3", "-4", "7 0 -9"),
			"decay "+oneOf(random, early, wide, late, slow, half),
			"end", "end",
			"open "+specimen+" "+prediction)
	}
	return oneOf(random,
		"specimen "+specimen+" "+number,
		"put "+specimen+" "+number,
		"put "+specimen+" "+number,
		"clear "+specimen,
		"sign "+specimen+" "+oneOf(random, "low", "low", "high", "high", "top", "none"),
		"sign "+specimen+" "+oneOf(random, "low", "high"),
		"action "+oneOf(random, "turn", "start", "pull", "halt", "none"),
		"action "+oneOf(random, "turn", "start", "pull"),
		"action "+oneOf(random, "start", "pull"),
		"seal "+specimen+" "+sumText(prediction),
		"open "+specimen+" "+prediction,
		"begin "+specimen+" "+strconv.Itoa(random.IntN(4))+" "+motion,
		"record "+oneOf(random, "acc", "none")+" "+oneOf(random, "-4", ""),
		"decay "+oneOf(random, early, "0;1 2", "x"),
		"end")
}

// sumText returns the sum of a string as a word.
func sumText(s string) string {
	sum, _ := archive.SumOf(s)
	return strconv.Itoa(sum)
}

// someLog returns a log of the wide net, and one of each error that was met.
func someLog(random *rand.Rand) ([]api.ArchiveEntry, map[api.Errno]bool) {
	n := wideNet()
	l := entries("0 ann specimen wall 8", "0 bob put wall 0", "0 ann sign wall low", "0 ann sign wall high", "0 bob sign wall high", "0 ann seal wall 98", "0 zoe seal wall 0", "0 eve specimen beam 0")
	l = l[:min(random.IntN(2*len(l)), len(l))]
	met := map[api.Errno]bool{}
	for at := 1; at < 150 && len(l) < api.MaxArchiveLog; at++ {
		x := api.ArchiveEntry{At: at, By: oneOf(random, "ann", "ann", "bob", "bob", "eve", "zoe", "xia", "kim"), Text: someText(random)}
		e := archive.MayAppend(n, l, x)
		met[e] = true
		if e == api.OK {
			l = append(l, x)
		}
	}
	return l, met
}

// sampleLogs returns logs of the wide net, not all of which are as long as logs may be, and how often each error was met.
var sampleLogs = sync.OnceValues(func() ([][]api.ArchiveEntry, map[api.Errno]int) {
	random := fixedRandom()
	var logs [][]api.ArchiveEntry
	met := map[api.Errno]int{}
	for range 200 {
		l, errors := someLog(random)
		logs = append(logs, l[:len(l)-random.IntN(min(5, len(l)+1))])
		for e := range errors {
			met[e]++
		}
	}
	return logs, met
})

// someLogs returns at most so many of the logs.
func someLogs(count int) [][]api.ArchiveEntry {
	logs, _ := sampleLogs()
	var l [][]api.ArchiveEntry
	for _, log := range logs[:min(count, len(logs))] {
		l = append(l, slices.Clone(log))
	}
	return l
}

// The logs are made among all errors of texts but those that only a full log, or a net that permits nothing, has.
func TestSampleLogs(t *testing.T) {
	_, met := sampleLogs()
	for _, e := range []api.Errno{
		api.OK, api.ErrMissing, api.ErrAllowed, api.ErrExists, api.ErrDouble, api.ErrBusy, api.ErrState, api.ErrRange, api.ErrBreak,
		api.ErrNone, api.ErrProof, api.ErrOpen, api.ErrRefused, api.ErrGap, api.ErrForm, api.ErrSyntax, api.ErrZero,
	} {
		if met[e] == 0 {
			t.Error("never met:", e, met)
		}
	}
}
