package hybrid_test

import (
	"math"
	"strings"
	"testing"

	"ductility/api"
	"ductility/hybrid"
)

// testText and messagesText are the strings of the example 9.
const (
	testText     = "4 1 2 2 1 0 3 0 8"
	messagesText = "c 0 10;r 0 14"
)

// P8.7, example 9
func TestTestStrings(t *testing.T) {
	for _, y := range []struct {
		x    api.HybridTest
		want string
	}{
		{exampleTest(), testText},
		{compensating(), "4 1 2 2 1 1 3 0 8"},
		{api.HybridTest{}, "0 0 0 0 0 0 0 0 0"},
		{api.HybridTest{Mass: -1, Damping: -2, Computed: -3, Shaken: -4, Delay: -5, Compensates: true, Bound: -6, Forces: to(-7, -8)}, "-1 -2 -3 -4 -5 1 -6 -7 -8"},
		{api.HybridTest{Mass: math.MaxInt, Bound: math.MinInt, Forces: to(9, -9)}, "9223372036854775807 0 0 0 0 0 -9223372036854775808 9 -9"},
		{api.HybridTest{Mass: 1, Damping: 2, Computed: 3, Shaken: 4, Delay: 5, Bound: 6, Forces: to(7, 8)}, "1 2 3 4 5 0 6 7 8"},
	} {
		if s := hybrid.FormatTest(y.x); s != y.want {
			t.Error(s, y.want)
		}
	}
	for text, want := range map[string]api.HybridTest{
		testText:                            exampleTest(),
		"4 1 2 2 1 1 3 0 8":                 compensating(),
		"1 0 0 0 0 0 0 0 0":                 {Mass: 1},
		"1000 999 998 997 2 1 3 -1000 -992": {Mass: 1000, Damping: 999, Computed: 998, Shaken: 997, Delay: 2, Compensates: true, Bound: 3, Forces: to(-1000, -992)},
		"1 1000 1000 1000 0 1 0 -1 7":       {Mass: 1, Damping: 1000, Computed: 1000, Shaken: 1000, Compensates: true, Forces: to(-1, 7)},
		"9 8 7 6 1 0 2 1000 1000":           {Mass: 9, Damping: 8, Computed: 7, Shaken: 6, Delay: 1, Bound: 2, Forces: to(1000, 1000)},
		"100 10 1000 10 0 0 1 -1000 -1000":  {Mass: 100, Damping: 10, Computed: 1000, Shaken: 10, Bound: 1, Forces: to(-1000, -1000)},
		"20 300 0 40 2 1 3 -4 4":            {Mass: 20, Damping: 300, Shaken: 40, Delay: 2, Compensates: true, Bound: 3, Forces: to(-4, 4)},
	} {
		x, e := hybrid.ParseTest(text)
		mustBe(t, text, x, e, want, api.OK)
	}
}

// P8.7, example 9
func TestMessageStrings(t *testing.T) {
	for _, y := range []struct {
		l    []api.HybridMessage
		want string
	}{
		{exampleMessages()[:2], messagesText},
		{exampleMessages(), "c 0 10;r 0 14;c 1 20;r 1 29;c 2 30"},
		{nil, ""},
		{[]api.HybridMessage{}, ""},
		{make([]api.HybridMessage, 1), "c 0 0"},
		{messagesOf(1, -1, -2, 2, 3, 4, -1, 5, 6, math.MinInt, math.MaxInt, math.MinInt), "r -1 -2;r 3 4;r 5 6;r 9223372036854775807 -9223372036854775808"},
		{messagesOf(0, 9, 8, 0, 9, 8), "c 9 8;c 9 8"},
	} {
		if s := hybrid.FormatMessages(y.l); s != y.want {
			t.Error(s, y.want)
		}
	}
	for text, want := range map[string][]api.HybridMessage{
		messagesText: exampleMessages()[:2],
		"c 0 10":     messagesOf(0, 0, 10),
		"":           nil,
		"c 0 0;r 0 1000000000000;c 1 1000000000000":          messagesOf(0, 0, 0, 1, 0, api.MaxTick, 0, 1, api.MaxTick),
		hybrid.FormatMessages(exchanged(make([]int, 60)...)): exchanged(make([]int, 60)...),
	} {
		l, e := hybrid.ParseMessages(text)
		mustBe(t, text, l, e, want, api.OK)
	}
}

// badWords lists words that are no numbers, whatever their length may be.
func badWords() []string {
	return []string{
		"", "-", "--1", "-0", "-00", "-01", "+1", "00", "01", "001", "-001", "1.", ".", "x", "1x", "x1", "1-", "\t", "1\n", "\n1", "\x00", "\u0663",
		"\uff11", "1e1", "0x1", "1_0", "- 1", " ", "/", ":", "1/", ":1", "1,2", "1;2", "\u22121", "c", "r",
		"10000000000000", "-10000000000000", "00000000000001", "99999999999999999999", "0000",
	}
}

// withWord returns a string with each of its words replaced by another one, in turn.
func withWord(text, word string) []string {
	var all []string
	words := strings.Split(text, " ")
	for i, old := range words {
		words[i] = word
		all = append(all, strings.Join(words, " "))
		words[i] = old
	}
	return all
}

// malformed returns strings that differ from one in that something is no number, missing or superfluous.
func malformed(text string) []string {
	all := []string{" ", "  ", "-", "\n", "1", "1 1", text + " 1", "1 " + text, text[2:], text[:len(text)-2]}
	for _, sign := range []string{" ", ",", ";", "/", "--", "+", "\n", "\t", "\x00"} {
		all = append(all, sign+text, text+sign, strings.ReplaceAll(text, " ", sign+" "), strings.Replace(text, " ", " "+sign, 1))
		if sign != " " {
			all = append(all, strings.Replace(text, " ", sign, 1), strings.Replace(text, " ", sign+"1", 1))
		}
	}
	for _, word := range badWords() {
		all = append(all, withWord(text, word)...)
	}
	return all
}

// P8.7
func TestMalformedTests(t *testing.T) {
	all := append(malformed(testText), "", "4 1 2 2 1 2 3 0 8", "4 1 2 2 1 00 3 0 8", "4 1 2 2 1 10 3 0 8", "4 1 2 2 1 -1 3 0 8", "4 1 2 2 1 true 3 0 8", "9999 1 2 2 1 2 3 0 8", "4 1 2 2 1 0 3 0", "0 0 0 0 0 0 0 0", "0 0 0 0 0 0 0 0 0 0")
	for _, word := range []string{"10000", "-10000", "00001", "12345"} {
		all = append(all, withWord(testText, word)...)
	}
	words := strings.Split(testText, " ")
	for i := range len(words) - 2 {
		words[i] = "-" + words[i]
		all = append(all, strings.Join(words, " "))
		words[i] = words[i][1:]
	}
	for _, length := range []int{api.MaxString, api.MaxString + 1, 5 * api.MaxString} {
		all = append(all, strings.Repeat("1", length), strings.Repeat("1 ", length)+"1", strings.Repeat(" ", length), testText+strings.Repeat(" 1", length), testText+strings.Repeat("0", length))
	}
	for _, s := range all {
		x, e := hybrid.ParseTest(s)
		if x != (api.HybridTest{}) || e != api.ErrSyntax {
			t.Errorf("%.60q %v %v", s, x, e)
		}
	}
}

// P8.7: errors of tests come after ErrSyntax.
func TestTestStringErrors(t *testing.T) {
	for text, want := range map[string]api.Errno{
		"0 1 2 2 1 0 3 0 8":        api.ErrRange,
		"1001 1 2 2 1 0 3 0 8":     api.ErrRange,
		"4 9999 2 2 1 0 3 0 8":     api.ErrRange,
		"4 1 1001 2 1 0 3 0 8":     api.ErrRange,
		"4 1 2 1001 1 0 3 0 8":     api.ErrRange,
		"4 1 2 2 3 0 3 0 8":        api.ErrRange,
		"4 1 2 2 1 1 4 0 8":        api.ErrRange,
		"4 1 2 2 1 1 3 -1001 8":    api.ErrRange,
		"4 1 2 2 1 1 3 9999 -9999": api.ErrRange,
		"4 1 2 2 1 0 3 8 0":        api.ErrOrder,
		"4 1 2 2 1 0 3 0 -1":       api.ErrOrder,
		"4 1 2 2 1 0 3 0 9":        api.ErrLarge,
		"4 1 2 2 1 0 3 -1000 1000": api.ErrLarge,
		"0 0 0 0 0 0 0 0 0":        api.ErrRange,
		"9999 1 2 2 1 0 3 0 08":    api.ErrSyntax,
		"4 1 2 2 1 0 3 8 -0":       api.ErrSyntax,
	} {
		x, e := hybrid.ParseTest(text)
		mustFail(t, text, x, e, want)
	}
	for _, b := range badTests() {
		x, e := hybrid.ParseTest(hybrid.FormatTest(b.x))
		if e != b.want && e != api.ErrSyntax || x != (api.HybridTest{}) {
			t.Error(b.name, x, e)
		}
	}
}

// P8.7
func TestMalformedMessages(t *testing.T) {
	all := []string{
		";", messagesText + ";", ";" + messagesText, strings.Replace(messagesText, ";", ";;", 1), strings.Replace(messagesText, ";", " ", 1), strings.Replace(messagesText, ";", "; ", 1),
		"c 0 10;c", "c 0 10;r 0", "c 0 10;r", "c", "c 0", "c 0 10 1", "C 0 10", "R 0 10", "cr 0 10", "command 0 10", "0 0 10", "1 0 10", "x 0 10", " 0 10", "c  0 10", "c 0 10 ", " c 0 10",
		"c 0 -1", "c -1 0", "c -0 10", "c 0 010", "c 00 10", "c 0 10000000000000", "c 10000000000000 1", "c 0 00000000000010", "c 99 99;x 0 0", "r 0 0;r 0 0;r 0 0 0", "c 0 10\n", "c\t0 10", "c 0 10;r 0 14\x00",
	}
	for _, s := range malformed("c 0 10") {
		if s != "c 0 10" && s != "r 0 10" { // one of its words is replaced by "c", or "r"
			all = append(all, s, "c 0 9;"+s, s+";r 0 14")
		}
	}
	for _, length := range []int{api.MaxString - 1, api.MaxString} {
		all = append(all, strings.Repeat("1", length), strings.Repeat(" ", length), strings.Repeat(";", length), strings.Repeat("c 0 0;", length/6)+strings.Repeat("x", length%6))
	}
	for _, s := range all {
		l, e := hybrid.ParseMessages(s)
		if len(l) > 0 || e != api.ErrSyntax {
			t.Errorf("%.60q %v %v", s, l, e)
		}
	}
}

// P8.7: a string of more than MaxString bytes comes first, errors of messages last.
func TestMessageStringErrors(t *testing.T) {
	repeated := func(part string, count int) string { return strings.Repeat(part+";", count-1) + part }
	for text, want := range map[string]api.Errno{
		"r 0 10":                                      api.ErrGap,
		"c 1 10":                                      api.ErrGap,
		"c 61 10":                                     api.ErrRange,
		"c 9999999999999 10":                          api.ErrRange,
		"c 0 1000000000001":                           api.ErrRange,
		"c 0 9999999999999":                           api.ErrRange,
		"c 0 10;r 0 9":                                api.ErrOrder,
		"c 0 10;c 0 10":                               api.ErrGap,
		"c 0 10;r 1 10":                               api.ErrGap,
		repeated("c 0 0", 61):                         api.ErrLarge,
		repeated("r 99 0", 61):                        api.ErrLarge,
		repeated("c 0 0", 10000):                      api.ErrLarge,
		repeated("c 0 0", 10001):                      api.ErrLarge,
		repeated("c 0 0", 60):                         api.ErrGap,
		strings.Repeat("x", api.MaxString+1):          api.ErrLarge,
		strings.Repeat(" ", 2*api.MaxString):          api.ErrLarge,
		strings.Repeat("c 0 0;", 10000):               api.ErrSyntax,
		strings.Repeat("c 0 0;", 9999) + "c 0":        api.ErrSyntax,
		strings.Repeat("c 0 0;", 10000) + "c":         api.ErrLarge,
		"c 0 " + strings.Repeat("1", api.MaxString-4): api.ErrSyntax,
		"c 0 " + strings.Repeat("1", api.MaxString-3): api.ErrLarge,
	} {
		l, e := hybrid.ParseMessages(text)
		if len(l) > 0 || e != want {
			t.Errorf("%.60q %v %v, want %v", text, l, e, want)
		}
	}
}

// P8.14
func TestStringsBothWays(t *testing.T) {
	random := fixedRandom()
	tests := goodTests()
	for range 300 {
		tests = append(tests, someTest(random), calmTest(random))
	}
	for _, x := range tests {
		got, e := hybrid.ParseTest(hybrid.FormatTest(x))
		mustBe(t, x, got, e, x, api.OK)
	}
	for range 300 {
		l := someMessages(random)
		got, e := hybrid.ParseMessages(hybrid.FormatMessages(l))
		mustBe(t, l, got, e, l, api.OK)
	}
}
