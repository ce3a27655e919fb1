package jack_test

import (
	"math"
	"reflect"
	"strings"
	"testing"

	"ductility/api"
	"ductility/jack"
)

// pieceText is the string of a piece.
const pieceText = "0 0 0 0 0 0 3 0 0 0 0 0 -1 0 0 0 0 0 4"

// P1.6, example 8
func TestRigStrings(t *testing.T) {
	if s := jack.FormatRig(exampleRig()); s != rigText {
		t.Error(s)
	}
	if r, e := jack.ParseRig(rigText); !reflect.DeepEqual(r, exampleRig()) || e != api.OK {
		t.Error(r, e)
	}
	if s := jack.FormatRig(api.JackRig{}); s != "/0 0 0 0 0 0 0 0 0 0 0 0" {
		t.Error("no jacks", s)
	}
	odd := api.JackRig{Jacks: []api.JackJack{{Direction: api.JackWay{math.MinInt}, Stroke: api.Range{Lo: 1}}}}
	odd.Limits[5].Hi = -1
	if s := jack.FormatRig(odd); s != "-9223372036854775808 0 0 0 0 0 1 0/0 0 0 0 0 0 0 0 0 0 0 -1" {
		t.Error("whatever it is", s)
	}
}

// P1.6, example 8
func TestPieceStrings(t *testing.T) {
	if s := jack.FormatPieces(examplePath()); s != pathText {
		t.Error(s)
	}
	if l, e := jack.ParsePieces(pathText); !reflect.DeepEqual(l, examplePath()) || e != api.OK {
		t.Error(l, e)
	}
	if s := jack.FormatPieces(nil); s != "" {
		t.Error("no pieces", s)
	}
	odd := []api.JackPiece{{From: api.JackWay{5: math.MaxInt}, Ticks: -1}, {}}
	if s := jack.FormatPieces(odd); s != "0 0 0 0 0 9223372036854775807 0 0 0 0 0 0 0 0 0 0 0 0 -1;0 0 0 0 0 0 0 0 0 0 0 0 0 0 0 0 0 0 0" {
		t.Error("whatever they are", s)
	}
}

// malformed returns strings that differ from one of words in that a word is no number.
func malformed(text string) []string {
	var all []string
	for _, word := range []string{"", "-", "+1", "-0", "00", "01", "-01", "--1", "1-", "12345", "-12345", "1.", "x", "1\t", "\x00", "٣", "1/", "1;"} {
		first, last := strings.Index(text, " "), strings.LastIndex(text, " ")
		all = append(all, word+text[first:], text[:last+1]+word)
	}
	return append(all, " "+text, text+" ", strings.Replace(text, " ", "  ", 1), strings.Replace(text, " ", "\t", 1), text+" 1", text[strings.Index(text, " ")+1:], ";"+text, text+";")
}

// P1.6
func TestMalformedRigs(t *testing.T) {
	one := "1 0 0 0 0 0 -20 20"
	all := []string{"", "/", one, stays, one + ";" + stays, one + "/" + stays, one + stays + "/", one + ";;" + one + stays, one + " " + one + stays}
	for _, s := range malformed(one) {
		all = append(all, s+stays)
	}
	for _, s := range malformed(stays[1:]) {
		all = append(all, one+"/"+s)
	}
	for _, s := range all {
		if r, e := jack.ParseRig(s); len(r.Jacks) != 0 || r.Limits != [6]api.Range{} || e != api.ErrSyntax {
			t.Errorf("%q %v %v", s, r, e)
		}
	}
}

// P1.6
func TestRigStringErrors(t *testing.T) {
	one := "1 0 0 0 0 0 -20 20"
	nine := strings.Repeat(one+";", 8) + one
	long := strings.Repeat(" ", api.MaxString)
	for _, x := range []struct {
		text string
		want api.Errno
	}{
		{one + stays, api.OK},
		{long, api.ErrSyntax},
		{long + "/", api.ErrLarge},
		{nine + stays, api.ErrLarge},
		{nine + ";" + stays, api.ErrSyntax},
		{"3" + one[1:] + stays, api.ErrRange},
		{"9999" + one[1:] + stays, api.ErrRange},
		{"-9999" + one[1:] + stays, api.ErrRange},
		{"3" + one[1:] + stays + " 1", api.ErrSyntax},
		{"1 0 0 0 0 0 20 -20" + stays, api.ErrOrder},
		{"0" + one[1:] + stays, api.ErrZero},
		{one + "/-1001" + stays[4:], api.ErrRange},
		{one + "/16" + stays[4:], api.ErrOrder},
	} {
		r, e := jack.ParseRig(x.text)
		if e != x.want || e != api.OK && (len(r.Jacks) != 0 || r.Limits != [6]api.Range{}) {
			t.Errorf("%q %v %v", x.text, r, e)
		}
	}
}

// P1.6
func TestPieceStringErrors(t *testing.T) {
	for _, s := range append(malformed(pieceText), "", ";", pieceText[:len(pieceText)-1]+"-4", pieceText+"/", pieceText+" "+pieceText) {
		if l, e := jack.ParsePieces(s); len(l) != 0 || e != api.ErrSyntax {
			t.Errorf("%q %v %v", s, l, e)
		}
	}
	still := strings.Repeat("0 ", 18) + "1"
	for _, x := range []struct {
		text string
		want api.Errno
	}{
		{strings.Repeat(still+";", 7) + still, api.OK},
		{strings.Repeat(still+";", 8) + still, api.ErrLarge},
		{strings.Repeat(" ", api.MaxString), api.ErrSyntax},
		{strings.Repeat(" ", api.MaxString+1), api.ErrLarge},
		{still[:len(still)-1] + "0", api.ErrRange},
		{still[:len(still)-1] + "101", api.ErrRange},
		{"-1001" + still[1:], api.ErrRange},
		{"-1000" + still[1:], api.OK},
		{still + ";1" + still[1:], api.ErrBreak},
		{"1001" + still[1:] + ";", api.ErrSyntax},
	} {
		if l, e := jack.ParsePieces(x.text); e != x.want || e != api.OK && len(l) != 0 {
			t.Errorf("%q %v %v", x.text, l, e)
		}
	}
}

// P1.13
func TestStringsBothWays(t *testing.T) {
	random := fixedRandom()
	for range 300 {
		r := someRig(random, 1+random.IntN(8))
		if got, e := jack.ParseRig(jack.FormatRig(r)); !reflect.DeepEqual(got, r) || e != api.OK {
			t.Fatal(r, got, e)
		}
		l := []api.JackPiece{{From: someWay(random, 1000), Speed: someWay(random, 100), Half: someWay(random, 100), Ticks: 1 + random.IntN(100)}}
		if got, e := jack.ParsePieces(jack.FormatPieces(l)); !reflect.DeepEqual(got, l) || e != api.OK {
			t.Fatal(l, got, e)
		}
	}
	for _, l := range [][]api.JackPiece{examplePath(), {rest(1), rest(100), rest(2)}} {
		if got, e := jack.ParsePieces(jack.FormatPieces(l)); !reflect.DeepEqual(got, l) || e != api.OK {
			t.Fatal(l, got, e)
		}
	}
}
