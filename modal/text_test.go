package modal_test

import (
	"math"
	"strings"
	"testing"

	"ductility/api"
	"ductility/modal"
)

// The strings of the example 9.
const (
	frameText = "1 1;2 1"
	decayText = "2;-3 5 8 4 -6 -2 3 5 -4 -1 4"
)

// P6.7, example 9
func TestFrameStrings(t *testing.T) {
	for _, x := range []struct {
		f    api.ModalFrame
		want string
	}{
		{exampleFrame(), frameText},
		{frameOf(10, 20), "10;20"},
		{greatFrame(), "10 10 10 10;20 20 20 20"},
		{api.ModalFrame{}, ";"},
		{api.ModalFrame{Masses: []int{0, -1, 2}}, "0 -1 2;"},
		{api.ModalFrame{Springs: []int{math.MinInt, math.MaxInt}}, ";-9223372036854775808 9223372036854775807"},
		{frameOf(1, 2, 3, 4, 5, 6, 7, 8, 9, 1000), "1 2 3 4 5;6 7 8 9 1000"},
	} {
		if s := modal.FormatFrame(x.f); s != x.want {
			t.Error(s)
		}
	}
	for text, want := range map[string]api.ModalFrame{frameText: exampleFrame(), "10;20": frameOf(10, 20), "1 2 3 4;5 6 7 20": frameOf(1, 2, 3, 4, 5, 6, 7, 20)} {
		f, e := modal.ParseFrame(text)
		mustBe(t, text, f, e, want, api.OK)
	}
}

// P6.7, example 9
func TestDecayStrings(t *testing.T) {
	for _, x := range []struct {
		x    api.ModalDecay
		want string
	}{
		{exampleDecay(), decayText},
		{decayOf(0, 0), "0;0"},
		{decayOf(10000, 10000, -10000), "10000;10000 -10000"},
		{api.ModalDecay{}, "0;"},
		{decayOf(-7), "-7;"},
		{decayOf(math.MinInt, math.MaxInt, math.MinInt, 0), "-9223372036854775808;9223372036854775807 -9223372036854775808 0"},
	} {
		if s := modal.FormatDecay(x.x); s != x.want {
			t.Error(s)
		}
	}
	for text, want := range map[string]api.ModalDecay{decayText: exampleDecay(), "0;0": decayOf(0, 0), "10000;10000 -10000 -1": decayOf(10000, 10000, -10000, -1)} {
		x, e := modal.ParseDecay(text)
		mustBe(t, text, x, e, want, api.OK)
	}
}

// badNumbers lists words that are no numbers, whatever their length may be.
func badNumbers() []string {
	return []string{"", "-", "--1", "-0", "-00", "-01", "+1", "00", "01", "001", "000", "1.", ".", "x", "1x", "x1", "1-", "\t", "1\n", "\x00", "\u0663", "\uff11", "1e1", "0x1", "1_0", "- 1", "/", ":", "1/", ":1", "123456", "-123456", "000001"}
}

// withNumber returns a string with each of its numbers replaced by another word, in turn.
func withNumber(text, word string) []string {
	var all []string
	start := 0
	for i := range len(text) + 1 {
		if i == len(text) || strings.IndexByte(" ;", text[i]) >= 0 {
			all = append(all, text[:start]+word+text[i:])
			start = i + 1
		}
	}
	return all
}

// malformed returns strings that differ from one in that something is no number, missing or superfluous.
func malformed(text string) []string {
	all := []string{"", " ", ";", ";;", " ; ", "1", "1 1", "1;", ";1", "1 ;1", "1; 1", "1;1;1", "1;1;", ";1;1", "1,1", "1|1", "1/1"}
	for _, sign := range []string{" ", ",", ";", "/", "--", "+", "\n", "\x00", ";1"} {
		all = append(all, sign+text, text+sign)
	}
	for _, word := range badNumbers() {
		all = append(all, withNumber(text, word)...)
	}
	for i := range len(text) {
		if strings.IndexByte(" ;", text[i]) >= 0 {
			// One sign more, or another one.
			all = append(all, text[:i]+text[i:i+1]+text[i:], text[:i]+"|"+text[i+1:], text[:i]+"\t"+text[i+1:], text[:i]+","+text[i+1:])
		}
	}
	return all
}

// P6.7
func TestMalformedFrames(t *testing.T) {
	all := malformed(frameText)
	for _, word := range []string{"-1", "1000", "-10", "0000", "010"} {
		all = append(all, withNumber(frameText, word)...)
	}
	all = append(all, "1 1 2 1", "1 1;2 1;", "1;1;2;1", "0 0;0 x", "11 1 1 1 1;21 1 1 1 -1", "1 2 3 4 5;1 2 3 4 1000", strings.Repeat("x", api.MaxString), strings.Repeat(" ", api.MaxString))
	for _, s := range all {
		if f, e := modal.ParseFrame(s); !isNothing(f) || e != api.ErrSyntax {
			t.Errorf("%.60q %v %v", s, f, e)
		}
	}
}

// P6.7
func TestMalformedDecays(t *testing.T) {
	all := append(malformed(decayText), withNumber(decayText, "100000")...)
	all = append(all, "-2;1", "-1;-1", "1 1;1", "1 1;1 1", "2", "2 -3", "2;-3;5", "2;3 -0", "0;-", "99999;99999 x", "1;"+strings.Repeat("0 ", 100), strings.Repeat("x", api.MaxString))
	for _, s := range all {
		if x, e := modal.ParseDecay(s); !isNothing(x) || e != api.ErrSyntax {
			t.Errorf("%.60q %v %v", s, x, e)
		}
	}
}

// P6.7
func TestFrameStringErrors(t *testing.T) {
	for text, want := range map[string]api.Errno{
		"1;1":                                api.OK,
		"10 10 10 10;20 20 20 20":            api.OK,
		"1 1 1;20 20 20":                     api.OK,
		"1 1;1":                              api.ErrShape,
		"1;1 1":                              api.ErrShape,
		"0;1 1":                              api.ErrShape,
		"0 1 1 1 1;1 1 1 1":                  api.ErrShape,
		"0 1 1 1 1;1 1 1 1 999":              api.ErrLarge,
		"1 1 1 1 1;1 1 1 1 1":                api.ErrLarge,
		"0;1":                                api.ErrRange,
		"1;0":                                api.ErrRange,
		"11;1":                               api.ErrRange,
		"1;21":                               api.ErrRange,
		"999;999":                            api.ErrRange,
		"1 1 1 1;1 1 1 100":                  api.ErrRange,
		strings.Repeat("x", api.MaxString+1): api.ErrLarge,
		"1;" + strings.Repeat("1", api.MaxString):                              api.ErrLarge,
		"1" + strings.Repeat(" 1", 14999) + ";1" + strings.Repeat(" 1", 14999): api.ErrLarge,
		"1" + strings.Repeat(" 1", 14999) + ";1" + strings.Repeat(" 1", 14998): api.ErrShape,
		frameText + strings.Repeat(" 1", api.MaxString):                        api.ErrLarge,
	} {
		if f, e := modal.ParseFrame(text); e != want || e != api.OK && !isNothing(f) {
			t.Errorf("%.60q %v %v", text, f, e)
		}
	}
}

// P6.7
func TestDecayStringErrors(t *testing.T) {
	samples := func(first string, count int) string { return first + strings.Repeat(" 1", count-1) }
	for text, want := range map[string]api.Errno{
		"0;" + samples("-1", 60):             api.OK,
		"10000;" + samples("-10000", 59):     api.OK,
		"10000;0":                            api.OK,
		"0;" + samples("1", 61):              api.ErrLarge,
		"99999;" + samples("-99999", 61):     api.ErrLarge,
		"0;" + samples("1", 29999):           api.ErrLarge,
		"0;10001":                            api.ErrRange,
		"0;-10001":                           api.ErrRange,
		"0;0 0 99999":                        api.ErrRange,
		"0;-99999 0":                         api.ErrRange,
		"10001;0":                            api.ErrRange,
		"99999;-99999":                       api.ErrRange,
		strings.Repeat("x", api.MaxString+1): api.ErrLarge,
		"0;" + samples("1", 30000):           api.ErrLarge,
		decayText + strings.Repeat(";", api.MaxString): api.ErrLarge,
	} {
		if x, e := modal.ParseDecay(text); e != want || e != api.OK && !isNothing(x) {
			t.Errorf("%.60q %v %v", text, x, e)
		}
	}
}

// P6.7: a string of MaxString bytes is read, one of a byte more is not.
func TestLongestStrings(t *testing.T) {
	for length, want := range map[int]api.Errno{api.MaxString: api.ErrSyntax, api.MaxString + 1: api.ErrLarge} {
		text := strings.Repeat("1", length)
		f, e := modal.ParseFrame(text)
		mustFail(t, length, f, e, want)
		x, e := modal.ParseDecay(text)
		mustFail(t, length, x, e, want)
	}
}

// P6.15
func TestStringsBothWays(t *testing.T) {
	for _, f := range someFrames() {
		got, e := modal.ParseFrame(modal.FormatFrame(f))
		mustBe(t, f, got, e, f, api.OK)
	}
	random := fixedRandom()
	for range 500 {
		x := someDecay(random)
		if random.IntN(2) == 0 {
			x.Off = random.IntN(api.MaxModalSample + 1)
			x.Samples = append(x.Samples[1:], within(random, api.MaxModalSample))
		}
		got, e := modal.ParseDecay(modal.FormatDecay(x))
		mustBe(t, x, got, e, x, api.OK)
	}
}
