package safety_test

import (
	"math"
	"strings"
	"testing"

	"ductility/api"
	"ductility/safety"
)

// machineText and gatesText are the strings of the example 8.
const (
	machineText = "key,door,run/open:-2>+1;shut:>-1;turn:>+0;start:+0-1>+2;halt:>-2/+1+2"
	gatesText   = "low 1 chief;high 2 chief owner"
)

// P9.7, example 8
func TestMachineStrings(t *testing.T) {
	strange := api.SafetyMachine{
		Flags:   []string{"", "a,b", "/"},
		Actions: []api.SafetyAction{{}, {Name: ";:>", Needs: api.SafetyTest{On: ints(-1, 100), Off: ints(7, 7)}, Does: api.SafetyTest{Off: ints(math.MinInt)}}},
		Harms:   []api.SafetyTest{{}, {On: ints(math.MaxInt), Off: ints(-3)}, {}},
	}
	for _, y := range []struct {
		m    api.SafetyMachine
		want string
	}{
		{exampleMachine(), machineText},
		{openMachine(), strings.Replace(machineText, "-2", "", 1)},
		{api.SafetyMachine{}, "//"},
		{api.SafetyMachine{Flags: []string{}, Actions: []api.SafetyAction{}, Harms: []api.SafetyTest{}}, "//"},
		{api.SafetyMachine{Flags: letters(2)}, "a,b//"},
		{api.SafetyMachine{Actions: []api.SafetyAction{action("x", "", "")}}, "/x:>/"},
		{api.SafetyMachine{Harms: tests("+0", "-1", "+0+1-2-3")}, "//+0,-1,+0+1-2-3"},
		{api.SafetyMachine{Harms: tests("")}, "//"},
		{api.SafetyMachine{Harms: tests("", "")}, "//,"},
		{strange, ",a,b,//:>;;:>:+-1+100-7-7>--9223372036854775808/,+9223372036854775807--3,"},
	} {
		if s := safety.FormatMachine(y.m); s != y.want {
			t.Error(s, y.want)
		}
	}
	for text, want := range map[string]api.SafetyMachine{
		machineText:            exampleMachine(),
		"a//":                  {Flags: letters(1)},
		"a,b,c,d,e,f,g,h//":    {Flags: letters(8)},
		"a/a:>/":               {Flags: letters(1), Actions: []api.SafetyAction{action("a", "", "")}},
		"a//+0,-0":             {Flags: letters(1), Harms: tests("+0", "-0")},
		"a,b/x:+0+1>-0-1/":     {Flags: letters(2), Actions: []api.SafetyAction{action("x", "+0+1", "-0-1")}},
		"a,b/x:>;y:-0>/+0-1":   {Flags: letters(2), Actions: []api.SafetyAction{action("x", "", ""), action("y", "-0", "")}, Harms: tests("+0-1")},
		"a-1,b-2/x-y-z:>+0-1/": {Flags: []string{"a-1", "b-2"}, Actions: []api.SafetyAction{action("x-y-z", "", "+0-1")}},
	} {
		m, e := safety.ParseMachine(text)
		mustBe(t, text, m, e, want, api.OK)
	}
}

// P9.7, example 8
func TestGatesStrings(t *testing.T) {
	for _, y := range []struct {
		l    []api.SafetyGate
		want string
	}{
		{exampleGates(), gatesText},
		{nil, ""},
		{[]api.SafetyGate{}, ""},
		{make([]api.SafetyGate, 1), " 0"},
		{make([]api.SafetyGate, 2), " 0; 0"},
		{[]api.SafetyGate{gate("a b;c", -1, "", ";", " ")}, "a b;c -1  ;  "},
		{[]api.SafetyGate{gate("", math.MinInt, "x"), gate("?", math.MaxInt)}, " -9223372036854775808 x;? 9223372036854775807"},
		{gates(3), "a 0;b 0;c 0"},
	} {
		if s := safety.FormatGates(y.l); s != y.want {
			t.Error(s, y.want)
		}
	}
	for text, want := range map[string][]api.SafetyGate{
		gatesText:                 exampleGates(),
		"a 0":                     gates(1),
		"a 0;b 0;c 0;d 0;e 0;f 0": gates(6),
		"a 20 a b c d":            {gate("a", 20, "a", "b", "c", "d")},
		"z-9 10 z-9":              {gate("z-9", 10, "z-9")},
	} {
		l, e := safety.ParseGates(text)
		mustBe(t, text, l, e, want, api.OK)
	}
}

// badIndexes lists what is no number of a test, whatever follows its sign.
func badIndexes() []string {
	return []string{
		"", "00", "01", "-0", "000", "001", "010", "100", "123", "x", "1x", "x1", " 1", "1 ", "1.", "1\n", "\x00", "1\x00", "\u0661", "0x1", "1_0", "1e1",
		"(", "?", "1=", "=", "99999999999999999999", "00000000000000000001", strings.Repeat("1", 50000), strings.Repeat("0", 50000),
	}
}

// badTestTexts lists strings that are malformed as tests everywhere.
func badTestTexts() []string {
	all := []string{"0", "1", "12", "+", "-", "++", "--", "+-", "-+", "+0+", "+0-", "+0-1-", "-0-", "0+1", "1-0", "-0+1", "+0-1+2", "-1+0-2", " +0", "+0 ", "+0 +1", " ", "+0++1", "-0--1", "+0-+1", "+0--1", "*0", "+0*1", "\u22120", "x", "+0x", "-0x"}
	for _, index := range badIndexes() {
		all = append(all, "+"+index, "-"+index, "+0+"+index, "+0-"+index, "-0-"+index, "+"+index+"+1", "-"+index+"-1", "+"+index+"-1")
	}
	return all
}

// P9.7
func TestMalformedMachines(t *testing.T) {
	all := []string{
		"", "/", "a", "a/", "/a", "a,b", "///", "a///", "a//+0/", "/a//", machineText + "/", "/" + machineText, strings.Replace(machineText, "/", "", 1), strings.Replace(machineText, "/", "//", 1),
		",//", "a,//", ",a//", "a,,b//", ",,,,,,,,,,,,//", "a,//+9", "a,/:>/",
		"a/;/", "a/x:>;/", "a/;x:>/", "a/x:>;;y:>/", "a/x/", "a/x:/", "a/x>/", "a/x:+0/", "a/x+0>/", "a/:>/", "a/:+0>+0/", "a/>:/", "a/x::>/", "a/x:>:/", "a/x:>>/", "a/x:+0>>+0/", "a/x:+0:>/",
		"a/x:>+0>/", "a/x:>;:>/", "a/x:>;y/", "a/x>:/", "a/x >/", "a/x:>,y:>/", "a/x: >/", "a/x:> /", "a/ /", "a/\n/",
		"a//,", "a//+0,", "a//,+0", "a//+0,,-0", "a//+0;-0", "a//+0 ,-0", "a// ", "a//\n", "a// +0", "a//+0\n",
		// What is malformed comes before what machines must not be.
		"//,", "a,a/x/", "?,a//,", "a,b,c,d,e,f,g,h,i//0", "?/?:+9>;x/", "a,a//+9,+0-0,-0+0",
	}
	for _, text := range badTestTexts() {
		if len(text) < 1000 {
			all = append(all, "a,b,c/x:"+text+">+0/", "a,b,c/x:>"+text+"/", "a,b,c/x:>;y:>"+text+"/+0", "a,b,c//"+text, "a,b,c//+0,"+text, "a,b,c//"+text+",+0", "?,?//"+text)
		}
		all = append(all, "a,b,c//"+text)
	}
	for _, sign := range []string{"/", ",", "a", "+", "-"} {
		all = append(all, strings.Repeat(sign, api.MaxString), "a//"+strings.Repeat(sign, api.MaxString-3))
	}
	for _, text := range []string{"a/;", "a/x:>", "a/x:+", "a/x:>-", "a/x:>;"} {
		all = append(all, text+strings.Repeat(text[len(text)-1:], api.MaxString-len(text)-1)+"/")
	}
	for _, s := range all {
		m, e := safety.ParseMachine(s)
		if !areSame(m, api.SafetyMachine{}) || e != api.ErrSyntax {
			t.Errorf("%.60q %d %v %v", s, len(s), m, e)
		}
	}
}

// P9.7: too many bytes come first, errors of machines last.
func TestMachineStringErrors(t *testing.T) {
	repeated := func(part, sign string, count int) string { return strings.Repeat(part+sign, count-1) + part }
	for text, want := range map[string]api.Errno{
		"//":                                  api.ErrShape,
		"//+0":                                api.ErrShape,
		"/x:>/":                               api.ErrShape,
		"/" + repeated("x:>", ";", 11) + "/":  api.ErrShape,
		"a,b,c,d,e,f,g,h,i//":                 api.ErrLarge,
		"a/" + repeated("x:>", ";", 11) + "/": api.ErrLarge,
		"a//" + repeated("+0", ",", 5):        api.ErrLarge,
		repeated("?", ",", 9) + "//":          api.ErrLarge,
		"a/" + repeated("x:>", ";", 10) + "/": api.ErrExists,
		"1//":                                 api.ErrName,
		" //":                                 api.ErrName,
		"a,?//":                               api.ErrName,
		"a;b//":                               api.ErrName,
		"a:>//":                               api.ErrName,
		"+0//":                                api.ErrName,
		"abcdefghijklm//":                     api.ErrName,
		"a,b,a//":                             api.ErrExists,
		"a/a>b:>/":                            api.ErrName,
		"a/>:>/":                              api.ErrName,
		"a/x,y:>/":                            api.ErrName,
		"a/ :>/":                              api.ErrName,
		"a/+0:>/":                             api.ErrName,
		"a/x:>;x:>/":                          api.ErrExists,
		"a/x:+1>/":                            api.ErrMissing,
		"a/x:>-99/":                           api.ErrMissing,
		"a//+10":                              api.ErrMissing,
		"a,b//-0,-2":                          api.ErrMissing,
		"a,b/x:+1+0>/":                        api.ErrOrder,
		"a,b/x:>-0-0/":                        api.ErrOrder,
		"a,b//+1+1":                           api.ErrOrder,
		"a/x:+0-0>/":                          api.ErrClash,
		"a/x:>+0-0/":                          api.ErrClash,
		"a//+0-0":                             api.ErrClash,
		strings.Repeat("a", api.MaxString-2) + "//":      api.ErrName,
		strings.Repeat("a", api.MaxString-1) + "//":      api.ErrLarge,
		strings.Repeat("/", api.MaxString+1):             api.ErrLarge,
		strings.Repeat(",", 10*api.MaxString):            api.ErrLarge,
		"ab//" + strings.Repeat("+0", api.MaxString/2-2): api.ErrOrder,
		"ab//" + strings.Repeat("+0", api.MaxString/2-1): api.ErrLarge,
		"ab//" + repeated("+0", ",", 19998):              api.ErrLarge,
		"ab//" + repeated("+0", ",", 19998) + ",":        api.ErrSyntax,
		"ab//" + repeated("+0", ",", 19999) + ",":        api.ErrLarge,
	} {
		m, e := safety.ParseMachine(text)
		if !areSame(m, api.SafetyMachine{}) || e != want {
			t.Errorf("%.60q %d %v %v, want %v", text, len(text), m, e, want)
		}
	}
	for _, b := range badMachines() {
		m, e := safety.ParseMachine(safety.FormatMachine(b.m))
		if !areSame(m, api.SafetyMachine{}) || e != b.want && e != api.ErrSyntax && e != api.ErrLarge {
			t.Errorf("%.60q %v, want %v", b.name, e, b.want)
		}
	}
}

// P9.7
func TestMalformedGates(t *testing.T) {
	all := []string{
		"", " ", "  ", ";", "a", "a ", " 1", "a  1", " a 1", "a 1 ", "a 1  b", "a 1 b ", "a 1;", ";a 1", "a 1;;b 1", "a 1; b 1", "a 1 ;b 1", "a 1;b", "a;b 1", "a 1;b ", "a 1\n", "a\t1", "a,1", "a b 1", "a 1,b 1",
		"? x", "a -1;?", "a 99;a", "a 0;b 0;c 0;d 0;e 0;f 0;g", "? 1 ? ?;? -1",
		gatesText + ";", ";" + gatesText, gatesText + " ", " " + gatesText, strings.Replace(gatesText, " ", "  ", 1), strings.Replace(gatesText, "1 ", "", 1),
	}
	for _, word := range []string{"-1", "+1", "-0", "00", "01", "001", "1000", "0000", "x", "1x", "x1", "1.", ".1", "1\n", "\x00", "\u0661", "0x1", "1e1", "1_0", "99999999999999999999", "/", ":", "1/", "1:", "-", "+"} {
		all = append(all, "a "+word, "a "+word+" b", "a 1;b "+word, "a "+word+";b 1", "? "+word)
	}
	for _, length := range []int{api.MaxString - 1, api.MaxString} {
		all = append(all, strings.Repeat(" ", length), strings.Repeat(";", length), strings.Repeat("a", length), "a "+strings.Repeat("1", length-2), "a "+strings.Repeat("0", length-2), "a 1"+strings.Repeat(" ", length-3))
	}
	for _, s := range all {
		l, e := safety.ParseGates(s)
		if len(l) > 0 || e != api.ErrSyntax {
			t.Errorf("%.60q %v %v", s, l, e)
		}
	}
}

// P9.7: too many bytes come first, errors of gates last.
func TestGatesStringErrors(t *testing.T) {
	for text, want := range map[string]api.Errno{
		"a 0;b 0;c 0;d 0;e 0;f 0;g 0": api.ErrLarge,
		"? 0;? 0;? 0;? 0;? 0;? 0;? 0": api.ErrLarge,
		"1 1":                         api.ErrName,
		"? 999 ? ?":                   api.ErrName,
		"abcdefghijklm 1":             api.ErrName,
		"a,b 1":                       api.ErrName,
		"a:> 1":                       api.ErrName,
		"a 1;a 1":                     api.ErrExists,
		"a 1 b c d e f":               api.ErrLarge,
		"a 1 1":                       api.ErrName,
		"a 1 b,c":                     api.ErrName,
		"a 1 -":                       api.ErrName,
		"a 1 b b":                     api.ErrDouble,
		"a 21":                        api.ErrRange,
		"a 100":                       api.ErrRange,
		"a 999":                       api.ErrRange,
		"a 20;b 21":                   api.ErrRange,
		"a 20 b\n":                    api.ErrName,
		"a 1 " + strings.Repeat("b", api.MaxString-4):   api.ErrName,
		"a 1 " + strings.Repeat("b", api.MaxString-3):   api.ErrLarge,
		"a 1" + strings.Repeat(" b", api.MaxString/2-2): api.ErrLarge,
		strings.Repeat(" ", api.MaxString+1):            api.ErrLarge,
		strings.Repeat("a 0;", api.MaxString):           api.ErrLarge,
		strings.Repeat("a 0;", 10000) + "a 0":           api.ErrLarge,
		strings.Repeat("a 0;", 10000):                   api.ErrSyntax,
	} {
		l, e := safety.ParseGates(text)
		if len(l) > 0 || e != want {
			t.Errorf("%.60q %v %v, want %v", text, l, e, want)
		}
	}
	for _, b := range allBadGates() {
		l, e := safety.ParseGates(safety.FormatGates(b.l))
		if len(l) > 0 || e != b.want && e != api.ErrSyntax && e != api.ErrLarge {
			t.Errorf("%.60q %v, want %v", b.name, e, b.want)
		}
	}
}

// P9.14
func TestStringsBothWays(t *testing.T) {
	random := fixedRandom()
	machines := goodMachines()
	for range 500 {
		machines = append(machines, someMachine(random))
	}
	for _, m := range machines {
		got, e := safety.ParseMachine(safety.FormatMachine(m))
		mustBe(t, m, got, e, m, api.OK)
	}
	all := allGoodGates()
	for range 500 {
		all = append(all, someGates(random))
	}
	for _, l := range all {
		got, e := safety.ParseGates(safety.FormatGates(l))
		mustBe(t, l, got, e, l, api.OK)
	}
}
