package oil_test

import (
	"math"
	"reflect"
	"slices"
	"strings"
	"testing"

	"ductility/api"
	"ductility/oil"
)

// plantText is the string of the plant p of the examples.
const plantText = "4 150 190;0 100;10 150;30 200"

// P3.7, example 8
func TestPlantStrings(t *testing.T) {
	if s := oil.FormatPlant(examplePlant()); s != plantText {
		t.Error(s)
	}
	if p, e := oil.ParsePlant(plantText); !areSamePlants(p, examplePlant()) || e != api.OK {
		t.Error(p, e)
	}
	if s := oil.FormatPlant(api.OilPlant{}); s != "0 0 0" {
		t.Error("no points", s)
	}
	odd := api.OilPlant{Points: []api.OilPoint{{Volume: -1, Pressure: math.MinInt}}, Pump: math.MaxInt, On: 2, Off: 1}
	if s := oil.FormatPlant(odd); s != "9223372036854775807 2 1;-1 -9223372036854775808" {
		t.Error("whatever it is", s)
	}
}

// P3.7, example 8
func TestClassStrings(t *testing.T) {
	if s := oil.FormatClass(exampleClass()); s != "10 12;0 2" {
		t.Error(s)
	}
	if l, e := oil.ParseClass("10 12;0 2"); !slices.Equal(l, exampleClass()) || e != api.OK {
		t.Error(l, e)
	}
	for _, none := range [][]api.Range{nil, {}} {
		if s := oil.FormatClass(none); s != "" {
			t.Error("no ranges", s)
		}
	}
	if l, e := oil.ParseClass(""); len(l) != 0 || e != api.OK {
		t.Error("no ranges", l, e)
	}
	if s := oil.FormatClass(classOf(-3, math.MinInt, math.MaxInt, 5)); s != "-3 -9223372036854775808;9223372036854775807 5" {
		t.Error("whatever they are", s)
	}
}

// badWords lists words that are no numbers.
func badWords() []string {
	return []string{"", "-", "-1", "-0", "+1", "00", "01", "0000", "12345", "00001", "1.", "x", "1x", "1\t", "\x00", "٣", "1/", "0x1"}
}

// withWord returns the string with each of its words replaced by another one, in turn.
func withWord(text, word string) []string {
	var all []string
	start := 0
	for i := range len(text) + 1 {
		if i == len(text) || text[i] == ' ' || text[i] == ';' {
			all = append(all, text[:start]+word+text[i:])
			start = i + 1
		}
	}
	return all
}

// malformed returns strings that differ from one in that something is no number, missing or superfluous.
func malformed(text string) []string {
	all := []string{" " + text, text + " ", ";" + text, text + ";", text + " 1", text + ";1", text + ";1 2 3", text + "; 2", text + ";2 ", text + "/"}
	for _, word := range badWords() {
		all = append(all, withWord(text, word)...)
	}
	for i := range len(text) {
		if text[i] == ' ' || text[i] == ';' {
			// One sign more, none, or another one.
			all = append(all, text[:i]+text[i:i+1]+text[i:], text[:i]+","+text[i+1:], text[:i]+"\t"+text[i+1:], text[:i]+"\n"+text[i+1:])
		}
	}
	return all
}

// P3.7
func TestMalformedPlants(t *testing.T) {
	all := append(malformed(plantText), "", ";", "4", "4 150", "4 150 190 0;0 100;10 150", "4 150;0 100;10 150", "0 100;10 150", "4 150 190;", "4 150 190;;", ";0 100;10 150",
		"4 150 190;0;10 150", "4 150 190;0 100 1;10 150", "4 150 190 0 100 10 150", "9999 9999 9999;9999", "4 150 190;0 100;")
	for _, s := range all {
		if p, e := oil.ParsePlant(s); !isNothing(p) || e != api.ErrSyntax {
			t.Errorf("%q %v %v", s, p, e)
		}
	}
}

// P3.7
func TestMalformedClasses(t *testing.T) {
	all := append(malformed("10 12;0 2"), " ", ";", "1", "1 2 3", "1 2;", ";1 2", "1;2", "3 2;x 1", "1 2,3 4")
	for _, s := range all {
		if l, e := oil.ParseClass(s); len(l) != 0 || e != api.ErrSyntax {
			t.Errorf("%q %v %v", s, l, e)
		}
	}
}

// P3.7
func TestPlantStringErrors(t *testing.T) {
	for _, x := range []struct {
		text string
		want api.Errno
	}{
		{"4 150 190;0 100;10 150", api.OK},
		{"0 0 1;0 0;200 1000", api.OK},
		{strings.Repeat("x", api.MaxString), api.ErrSyntax},
		{strings.Repeat("x", api.MaxString+1), api.ErrLarge},
		{plantText + strings.Repeat(" ", api.MaxString), api.ErrLarge},
		{"4 150 190", api.ErrShape},
		{"4 150 190;0 100", api.ErrShape},
		{"4 150 190" + strings.Repeat(";9999 9999", 9), api.ErrLarge},
		{"4 150 190" + strings.Repeat(";9999 9999", 9) + ";", api.ErrSyntax},
		{"4 150 190;0 100;201 150", api.ErrRange},
		{"4 150 190;0 100;9999 9999", api.ErrRange},
		{"4 150 190;1 100;10 150", api.ErrOrder},
		{"4 150 190;0 100;10 100", api.ErrOrder},
		{"51 150 190;0 100;10 150", api.ErrRange},
		{"4 1001 190;0 100;10 150", api.ErrRange},
		{"4 190 190;0 100;10 150", api.ErrOrder},
	} {
		p, e := oil.ParsePlant(x.text)
		if e != x.want || e != api.OK && !isNothing(p) {
			t.Errorf("%.60q %v %v", x.text, p, e)
		}
	}
}

// P3.7
func TestClassStringErrors(t *testing.T) {
	for _, x := range []struct {
		text string
		want api.Errno
	}{
		{"0 50", api.OK},
		{strings.Repeat("0 50;", 19) + "0 50", api.OK},
		{strings.Repeat("3 2;", 20) + "0 50", api.ErrLarge},
		{strings.Repeat("3 2;", 20) + "0 50;", api.ErrSyntax},
		{strings.Repeat("x", api.MaxString), api.ErrSyntax},
		{strings.Repeat("x", api.MaxString+1), api.ErrLarge},
		{"0 51", api.ErrRange},
		{"9999 0", api.ErrRange},
		{"0 1;3 2", api.ErrOrder},
		{"0 1;3 2;51 51", api.ErrOrder},
	} {
		l, e := oil.ParseClass(x.text)
		if e != x.want || e != api.OK && len(l) != 0 {
			t.Errorf("%.60q %v %v", x.text, l, e)
		}
	}
}

// P3.14
func TestStringsBothWays(t *testing.T) {
	random := fixedRandom()
	for _, p := range goodPlants() {
		if got, e := oil.ParsePlant(oil.FormatPlant(p)); !reflect.DeepEqual(got, p) || e != api.OK {
			t.Error(p, got, e)
		}
	}
	for range 300 {
		p := somePlant(random, 2+random.IntN(199))
		if got, e := oil.ParsePlant(oil.FormatPlant(p)); !reflect.DeepEqual(got, p) || e != api.OK {
			t.Fatal(p, got, e)
		}
		class := someClass(random, api.MaxOilTicks, api.MaxOilFlow)
		if got, e := oil.ParseClass(oil.FormatClass(class)); !slices.Equal(got, class) || e != api.OK {
			t.Fatal(class, got, e)
		}
	}
}
