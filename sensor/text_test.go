package sensor_test

import (
	"math"
	"strings"
	"testing"

	"ductility/api"
	"ductility/sensor"
)

// lineText is the string of the example 10.
const lineText = "25 -15 2"

// rawText is a string of raw samples.
const rawText = "0 -1 100000 -100000 25"

// P7.6, example 10
func TestLineStrings(t *testing.T) {
	for _, x := range []struct {
		x    api.SensorLine
		want string
	}{
		{line(25, -15, 2), lineText},
		{api.SensorLine{}, "0 0 0"},
		{line(-1, -2, -3), "-1 -2 -3"},
		{line(2, 4, 6), "2 4 6"},
		{line(math.MinInt, math.MaxInt, math.MinInt), "-9223372036854775808 9223372036854775807 -9223372036854775808"},
	} {
		if s := sensor.FormatLine(x.x); s != x.want {
			t.Error(s)
		}
	}
	for text, want := range map[string]api.SensorLine{
		lineText:             line(25, -15, 2),
		"0 0 1":              line(0, 0, 1),
		"-25 1 300000000000": line(-25, 1, api.MaxSensorNumber),
		"300000000000 -300000000000 299999999999": line(api.MaxSensorNumber, -api.MaxSensorNumber, api.MaxSensorNumber-1),
	} {
		x, e := sensor.ParseLine(text)
		mustBe(t, text, x, e, want, api.OK)
	}
}

// P7.6
func TestRawStrings(t *testing.T) {
	for _, x := range []struct {
		raw  []int
		want string
	}{
		{[]int{0, -1, 100000, -100000, 25}, rawText},
		{[]int{7}, "7"},
		{nil, ""},
		{[]int{}, ""},
		{[]int{math.MinInt, math.MaxInt}, "-9223372036854775808 9223372036854775807"},
		{make([]int, 61), strings.Repeat("0 ", 60) + "0"},
	} {
		if s := sensor.FormatRaw(x.raw); s != x.want {
			t.Error(s)
		}
	}
	for text, want := range map[string][]int{rawText: {0, -1, 100000, -100000, 25}, "7": {7}, "-9": {-9}, "0": {0}, strings.Repeat("1 ", 59) + "1": full(1, 60, 1)[0]} {
		raw, e := sensor.ParseRaw(text)
		mustBe(t, text, raw, e, want, api.OK)
	}
}

// badWords lists words that are no numbers, whatever their length may be.
func badWords() []string {
	return []string{
		"", "-", "--1", "-0", "-00", "-01", "+1", "00", "01", "001", "-001", "000000", "1.", ".", "x", "1x", "x1", "1-", "\t", "1\n", "\n1", "\x00", "\u0663",
		"\uff11", "1e1", "0x1", "1_0", "- 1", " ", "/", ":", "1/", ":1", "1,2", "1;2", "\u22121", "1234567890123", "-1234567890123", "0000000000001",
	}
}

// withWord returns a string with each of its words replaced by another one, in turn.
func withWord(text, word string) []string {
	var all []string
	words := strings.Split(text, " ")
	for i, old := range words {
		words[i] = word
		all = append(all, strings.Join(words, " "))
		words[i] = old
	}
	return all
}

// malformed returns strings that differ from one in that something is no number, missing or superfluous.
func malformed(text string) []string {
	all := []string{"", " ", "  ", "-", "\n", "1  1 1", " 1 1 1", "1 1 1 "}
	for _, sign := range []string{" ", ",", ";", "/", "--", "+", "\n", "\t", "\x00"} {
		all = append(all, sign+text, text+sign, strings.ReplaceAll(text, " ", sign+" "), strings.Replace(text, " ", " "+sign, 1), strings.Replace(text, " ", sign+"1", 1))
	}
	for _, word := range badWords() {
		all = append(all, withWord(text, word)...)
	}
	return all
}

// P7.6
func TestMalformedLines(t *testing.T) {
	all := append(malformed(lineText), "25", "25 -15", "25 -15 2 1", "1 1 1 1", "25 -15 -2", "1 1 -1", "0 0 -1", "1 1 -0", "0 -0 1", "-0 0 1", "0 0 x", "999999999999 0 x")
	for _, word := range []string{"1000000000000", "-1000000000000", "0300000000000"} {
		all = append(all, withWord(lineText, word)...)
	}
	for _, length := range []int{api.MaxString, api.MaxString + 1, 5 * api.MaxString} {
		all = append(all, strings.Repeat("1", length), strings.Repeat("1 ", length)+"1", strings.Repeat(" ", length), lineText+strings.Repeat(" 1", length))
	}
	for _, s := range all {
		x, e := sensor.ParseLine(s)
		if x != (api.SensorLine{}) || e != api.ErrSyntax {
			t.Errorf("%.60q %v %v", s, x, e)
		}
	}
}

// P7.6: errors of lines come after ErrSyntax.
func TestLineStringErrors(t *testing.T) {
	for text, want := range map[string]api.Errno{
		"25 -15 0":                  api.ErrRange,
		"0 0 0":                     api.ErrRange,
		"300000000001 0 1":          api.ErrRange,
		"-300000000001 0 1":         api.ErrRange,
		"0 300000000001 1":          api.ErrRange,
		"0 -999999999999 1":         api.ErrRange,
		"1 1 300000000001":          api.ErrRange,
		"2 2 999999999999":          api.ErrRange,
		"0 0 2":                     api.ErrForm,
		"25 -15 5":                  api.ErrForm,
		"-4 2 6":                    api.ErrForm,
		"300000000000 0 2":          api.ErrForm,
		"300000000001 0 -1":         api.ErrSyntax,
		"1000000000000 0 0":         api.ErrSyntax,
		"300000000001 0 01":         api.ErrSyntax,
		"999999999999 999999999999": api.ErrSyntax,
	} {
		x, e := sensor.ParseLine(text)
		mustFail(t, text, x, e, want)
	}
}

// P7.6
func TestMalformedRaw(t *testing.T) {
	all := append(malformed(rawText), "1 ", " 1", "1  2", "1 2 ", "-0", "1 -0", "0 00", "1234567", "-1234567", "0 1000000", "0000001", "999999 x", strings.Repeat("1 ", 60), strings.Repeat("999999 ", 61)+"x")
	for _, length := range []int{api.MaxString - 1, api.MaxString} {
		all = append(all, strings.Repeat("1", length), strings.Repeat(" ", length), strings.Repeat("1 ", length/2)+strings.Repeat("x", length%2))
	}
	for _, s := range all {
		raw, e := sensor.ParseRaw(s)
		if len(raw) > 0 || e != api.ErrSyntax {
			t.Errorf("%.60q %v %v", s, raw, e)
		}
	}
}

// P7.6: a string of more than MaxString bytes comes first, errors of raw samples last.
func TestRawStringErrors(t *testing.T) {
	samples := func(first string, count int) string { return first + strings.Repeat(" 1", count-1) }
	for text, want := range map[string]api.Errno{
		"100001":                                   api.ErrRange,
		"0 -100001":                                api.ErrRange,
		"999999 0":                                 api.ErrRange,
		"0 0 -999999":                              api.ErrRange,
		samples("999999", 60):                      api.ErrRange,
		samples("999999", 61):                      api.ErrLarge,
		samples("1", 61):                           api.ErrLarge,
		samples("1", 30000):                        api.ErrLarge,
		samples("10", 30000):                       api.ErrLarge,
		samples("100", 30000):                      api.ErrLarge,
		strings.Repeat("x", api.MaxString+1):       api.ErrLarge,
		strings.Repeat("1", api.MaxString+1):       api.ErrLarge,
		strings.Repeat(" ", 2*api.MaxString):       api.ErrLarge,
		samples("x", 30000):                        api.ErrSyntax,
		samples("1", 29999) + " x":                 api.ErrSyntax,
		"0" + strings.Repeat("0", api.MaxString-1): api.ErrSyntax,
	} {
		raw, e := sensor.ParseRaw(text)
		if len(raw) > 0 || e != want {
			t.Errorf("%.60q %v %v, want %v", text, raw, e, want)
		}
	}
}

// P7.15
func TestStringsBothWays(t *testing.T) {
	random := fixedRandom()
	lines := goodLines()
	for range 300 {
		lines = append(lines, someLine(random, []int{9, 1000, api.MaxSensorNumber}[random.IntN(3)]))
	}
	for _, x := range lines {
		got, e := sensor.ParseLine(sensor.FormatLine(x))
		mustBe(t, x, got, e, x, api.OK)
	}
	for range 300 {
		raw := someRaw(random, 1+random.IntN(api.MaxSensorSamples), []int{1, 99, api.MaxSensorRaw}[random.IntN(3)])
		got, e := sensor.ParseRaw(sensor.FormatRaw(raw))
		mustBe(t, raw, got, e, raw, api.OK)
	}
}
