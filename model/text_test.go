package model_test

import (
	"math"
	"strings"
	"testing"

	"ductility/api"
	"ductility/model"
)

// The strings of the example 9.
const (
	scalesText = "1/4 1/2 1/16"
	frameText  = "2 20,4 10 0;1 20,2 10 0"
)

// P5.7, example 9
func TestScalesStrings(t *testing.T) {
	for _, x := range []struct {
		s    [3]api.Frac
		want string
	}{
		{exampleScales(), scalesText},
		{[3]api.Frac{}, "0/0 0/0 0/0"},
		{[3]api.Frac{frac(-1, -22), frac(math.MinInt, math.MaxInt), frac(2, 4)}, "-1/-22 -9223372036854775808/9223372036854775807 2/4"},
	} {
		if s := model.FormatScales(x.s); s != x.want {
			t.Error(s)
		}
	}
	if s, e := model.ParseScales(scalesText); s != exampleScales() || e != api.OK {
		t.Error(s, e)
	}
	if s, e := model.ParseScales("100/99 99/100 1/1"); s != [3]api.Frac{frac(100, 99), frac(99, 100), frac(1, 1)} || e != api.OK {
		t.Error(s, e)
	}
}

// P5.7, example 9
func TestFrameStrings(t *testing.T) {
	mixed := frameOf(floorOf(10000, 1000, brittle(1000, 1000), ductile(1, 1)))
	for _, x := range []struct {
		f    api.ModelFrame
		want string
	}{
		{exampleFrame(), frameText},
		{mixed, "10000 1000,1000 1000 1,1 1 0"},
		{api.ModelFrame{}, ""},
		{frameOf(floorOf(0, 0)), "0 0"},
		{frameOf(floorOf(math.MinInt, -1), floorOf(math.MaxInt, 123456, brittle(-1, math.MinInt))), "-9223372036854775808 -1;9223372036854775807 123456,-1 -9223372036854775808 1"},
	} {
		if s := model.FormatFrame(x.f); s != x.want {
			t.Error(s)
		}
	}
	for text, want := range map[string]api.ModelFrame{frameText: exampleFrame(), "10000 1000,1000 1000 1,1 1 0": mixed} {
		if f, e := model.ParseFrame(text); !areSame(f, want) || e != api.OK {
			t.Error(text, f, e)
		}
	}
}

// badNumbers lists words that are no numbers, whatever their length may be.
func badNumbers() []string {
	return []string{"", "-", "-1", "-0", "+1", "00", "01", "001", "000", "1.", ".", "x", "1x", "x1", "1-", "\t", "1\n", "\x00", "\u0663", "\uff11", "1e1", "0x1", "1_0", "123456", "000001"}
}

// withNumber returns a string with each of its numbers replaced by another word, in turn.
func withNumber(text, word string) []string {
	var all []string
	start := 0
	for i := range len(text) + 1 {
		if i == len(text) || strings.IndexByte(" ,;/", text[i]) >= 0 {
			all = append(all, text[:start]+word+text[i:])
			start = i + 1
		}
	}
	return all
}

// malformed returns strings that differ from one in that something is no number, missing or superfluous.
func malformed(text string) []string {
	all := []string{"", " ", ",", ";", "/", "1", "1 1", "1/1", "1,1", "1;1"}
	for _, sign := range []string{" ", ",", ";", "/", "-", "\n", "\x00", " 1", ",1", ";1", "/1"} {
		all = append(all, sign+text, text+sign)
	}
	for _, word := range badNumbers() {
		all = append(all, withNumber(text, word)...)
	}
	for i := range len(text) {
		if strings.IndexByte(" ,;/", text[i]) >= 0 {
			// One sign more, none, or another one.
			all = append(all, text[:i]+text[i:i+1]+text[i:], text[:i]+"|"+text[i+1:], text[:i]+"\t"+text[i+1:], text[:i]+"."+text[i+1:])
		}
	}
	return all
}

// P5.7
func TestMalformedScales(t *testing.T) {
	all := append(malformed(scalesText), withNumber(scalesText, "1000")...)
	all = append(all, "1/4 1/2", "1/4 1/2 1/16 1/1", "1/4 1/2 1", "1/4 1/2 1/", "1/4 1/2 /1", "1/4 1/2 1/1/1", "1/4 1/2 1//1", "1/4  1/2 1/16", "1/4,1/2,1/16", "1/4;1/2;1/16", "1 4/1 2/1 16",
		"0/1 0/1 0/1 ", "2/4 101/1 x", "999/999 999/999", strings.Repeat("x", api.MaxString+1), scalesText+strings.Repeat(" 1/1", api.MaxString))
	for _, s := range all {
		if x, e := model.ParseScales(s); x != ([3]api.Frac{}) || e != api.ErrSyntax {
			t.Errorf("%.60q %v %v", s, x, e)
		}
	}
}

// P5.7
func TestScalesStringErrors(t *testing.T) {
	for text, want := range map[string]api.Errno{
		"1/1 1/1 1/1":         api.OK,
		"100/1 1/100 99/100":  api.OK,
		"1/0 1/1 1/1":         api.ErrForm,
		"0/0 1/1 1/1":         api.ErrForm,
		"1/1 2/4 1/1":         api.ErrForm,
		"1/1 1/1 0/2":         api.ErrForm,
		"1/1 1/1 0/1":         api.ErrRange,
		"101/1 1/1 1/1":       api.ErrRange,
		"1/1 1/101 1/1":       api.ErrRange,
		"999/998 2/4 0/0":     api.ErrRange,
		"2/4 999/998 0/0":     api.ErrForm,
		"999/999 1/999 999/1": api.ErrForm,
	} {
		if s, e := model.ParseScales(text); e != want || e != api.OK && s != ([3]api.Frac{}) {
			t.Error(text, s, e)
		}
	}
}

// P5.7
func TestMalformedFrames(t *testing.T) {
	all := append(malformed(frameText), "2 20", "2 20,", "2 20;1 20,2 10 0", "2 20,4 10 0;1 20", "2 20,4 10 0;", ";2 20,4 10 0", "2 20,4 10 0;;1 20,2 10 0",
		"2,4 10 0", "2 20 3,4 10 0", "2 20,4 10", "2 20,4 10 0 0", "2 20,,4 10 0", "2 20,4 10 0,", "2 20,4 10 2", "2 20,4 10 9", "2 20,4 10 00", "2 20,4 10 true",
		"2  20,4 10 0", " 2 20,4 10 0", "2 20 ,4 10 0", "2 20, 4 10 0", "2 20,4 10 0 ", "2 20,4 10 0 ;1 20,2 10 0", "0 0,0 0 0;0 0,0 0 x", "4 10 0,2 20",
		strings.Repeat("1 1,1 1 1;", 6), strings.Repeat("x", api.MaxString))
	for _, s := range all {
		if f, e := model.ParseFrame(s); !isNothing(f) || e != api.ErrSyntax {
			t.Errorf("%.60q %v %v", s, f, e)
		}
	}
}

// P5.7
func TestFrameStringErrors(t *testing.T) {
	floors := func(count int) string { return strings.Repeat("1 1,1 1 1;", count-1) + "1 1,1 1 1" }
	elements := func(count int) string { return "1 1" + strings.Repeat(",1 1 1", count) }
	for text, want := range map[string]api.Errno{
		floors(5):                            api.OK,
		elements(4):                          api.OK,
		"10000 1000,1000 1000 1":             api.OK,
		floors(6):                            api.ErrLarge,
		"0 1,1 1 1;" + floors(5):             api.ErrLarge,
		floors(5999):                         api.ErrLarge,
		elements(5):                          api.ErrLarge,
		elements(9999):                       api.ErrLarge,
		"0 1,1 1 1":                          api.ErrRange,
		"1 0,1 1 1":                          api.ErrRange,
		"1 1,0 1 1":                          api.ErrRange,
		"1 1,1 0 1":                          api.ErrRange,
		"10001 1,1 1 1":                      api.ErrRange,
		"1 1001,1 1 1":                       api.ErrRange,
		"1 1,1 1 1;1 1,1001 1 0":             api.ErrRange,
		"1 1,1 1 1;1 1,1 1 0,1 1001 0":       api.ErrRange,
		"99999 99999,99999 99999 1":          api.ErrRange,
		"1 1,0 0 0,1 1 1,1 1 1,1 1 1,1 1 1":  api.ErrLarge,
		strings.Repeat("x", api.MaxString+1): api.ErrLarge,
		frameText + strings.Repeat(";", api.MaxString): api.ErrLarge,
	} {
		if f, e := model.ParseFrame(text); e != want || e != api.OK && !isNothing(f) {
			t.Errorf("%.60q %v %v", text, f, e)
		}
	}
}

// P5.14
func TestStringsBothWays(t *testing.T) {
	for _, f := range []api.ModelFrame{exampleFrame(), greatFrame(), smallFrame()} {
		if got, e := model.ParseFrame(model.FormatFrame(f)); !areSame(got, f) || e != api.OK {
			t.Error(f, got, e)
		}
	}
	random := fixedRandom()
	for range 500 {
		s := someScales(random, 100)
		if got, e := model.ParseScales(model.FormatScales(s)); got != s || e != api.OK {
			t.Fatal(s, got, e)
		}
		f := someFrame(random)
		if got, e := model.ParseFrame(model.FormatFrame(f)); !areSame(got, f) || e != api.OK {
			t.Fatal(f, got, e)
		}
	}
}
