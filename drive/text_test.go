package drive_test

import (
	"math"
	"slices"
	"strings"
	"testing"

	"ductility/api"
	"ductility/drive"
)

// matrixText is the string of the matrix m of the examples.
const matrixText = "1,0 0,1|0,0 2,0"

// P4.5, example 8
func TestMatrixStrings(t *testing.T) {
	if s := drive.FormatMatrix(exampleMatrix()); s != matrixText {
		t.Error(s)
	}
	if m, e := drive.ParseMatrix(matrixText); !same(m, exampleMatrix()) || e != api.OK {
		t.Error(m, e)
	}
	if m, e := drive.ParseMatrix("-20,-1"); !same(m, rowsOf(1, -20, -1)) || e != api.OK {
		t.Error(m, e)
	}
	for _, x := range []struct {
		m    [][]api.Gauss
		want string
	}{
		{nil, ""},
		{[][]api.Gauss{{}}, ""},
		{[][]api.Gauss{{}, {}}, "|"},
		{[][]api.Gauss{{}, {{Re: 1}}}, "|1,0"},
		{[][]api.Gauss{{{Re: math.MinInt, Im: math.MaxInt}}, {{Re: -1}, {Im: -22}}}, "-9223372036854775808,9223372036854775807|-1,0 0,-22"},
	} {
		if s := drive.FormatMatrix(x.m); s != x.want {
			t.Error("whatever it is", s)
		}
	}
}

// P4.5, example 8
func TestDriveStrings(t *testing.T) {
	if s := drive.FormatDrive(listOf(3, 0)); s != "3,0" {
		t.Error(s)
	}
	if l, e := drive.ParseDrive("3,0"); !slices.Equal(l, listOf(3, 0)) || e != api.OK {
		t.Error(l, e)
	}
	if l, e := drive.ParseDrive("10000,-10000 0,0 -1,99"); !slices.Equal(l, listOf(10000, -10000, 0, 0, -1, 99)) || e != api.OK {
		t.Error(l, e)
	}
	for _, none := range [][]api.Gauss{nil, {}} {
		if s := drive.FormatDrive(none); s != "" {
			t.Error("no numbers", s)
		}
	}
	if s := drive.FormatDrive(listOf(math.MinInt, math.MaxInt, 1, 2, 3, 4, 5, 6)); s != "-9223372036854775808,9223372036854775807 1,2 3,4 5,6" {
		t.Error("whatever it is", s)
	}
}

// badParts lists words that are no parts.
func badParts() []string {
	return []string{"", "-", "--1", "-0", "+1", "00", "01", "-01", "000000", "123456", "-123456", "000001", "1.", "x", "1x", "1-", "- 1", "1\t", "\x00", "\u0663", "\uff11", "0x1", "1e1"}
}

// withPart returns the string with each of its parts replaced by another one, in turn.
func withPart(text, part string) []string {
	var all []string
	start := 0
	for i := range len(text) + 1 {
		if i == len(text) || strings.IndexByte(" |,", text[i]) >= 0 {
			all = append(all, text[:start]+part+text[i:])
			start = i + 1
		}
	}
	return all
}

// malformed returns strings that differ from one in that something is no number, missing or superfluous.
func malformed(text string) []string {
	all := []string{"", " ", ",", "|", "1", "1,", ",1", "1,2,3", "1 2", "1;2", "1,2;3,4", " " + text, text + " ", "," + text, text + ",", text + ",1", text + " 1", "1 " + text, "|" + text, text + "|", text + ";", text + "/1,0"}
	for _, part := range badParts() {
		all = append(all, withPart(text, part)...)
	}
	for i := range len(text) {
		if strings.IndexByte(" |,", text[i]) >= 0 {
			// One sign more, none, or another one.
			all = append(all, text[:i]+text[i:i+1]+text[i:], text[:i]+";"+text[i+1:], text[:i]+"\t"+text[i+1:], text[:i]+"\n"+text[i+1:])
		}
	}
	return all
}

// P4.5
func TestMalformedMatrices(t *testing.T) {
	all := append(malformed(matrixText), "100,0", "0,-100", "999,999", "1,0 0,1||0,0 2,0", "1,0|x", "21,0 0|0", "1,0 0,1 | 0,0 2,0", "1,0  0,1|0,0 2,0", "1,0|1,0|1,0|1,0|")
	for _, s := range all {
		if m, e := drive.ParseMatrix(s); len(m) != 0 || e != api.ErrSyntax {
			t.Errorf("%q %v %v", s, m, e)
		}
	}
}

// P4.5
func TestMalformedDrives(t *testing.T) {
	all := append(malformed("1,0 0,1 -7,5"), "1,0|2,0", matrixText, "100000,0", "0,-100000", "99999,99999,", "0,0 0,0 0,0 0,0 ", "99999,0 0")
	for _, s := range all {
		if l, e := drive.ParseDrive(s); len(l) != 0 || e != api.ErrSyntax {
			t.Errorf("%q %v %v", s, l, e)
		}
	}
}

// P4.5
func TestMatrixStringErrors(t *testing.T) {
	for _, x := range []struct {
		text string
		want api.Errno
	}{
		{"0,0", api.OK},
		{"-20,20 1,-1 0,0|1,0 2,0 3,0|0,-9 0,-10 0,20", api.OK},
		{strings.Repeat("x", api.MaxString), api.ErrSyntax},
		{strings.Repeat("x", api.MaxString+1), api.ErrLarge},
		{matrixText + strings.Repeat(" ", api.MaxString), api.ErrLarge},
		{"1,0|" + strings.Repeat("1,0|", 14998) + "1,0", api.ErrLarge},
		{"99,0|0,0|0,0|0,0", api.ErrLarge},
		{"99,0|0,0|0,0|0,0|", api.ErrSyntax},
		{"1,0 0,1", api.ErrShape},
		{"1,0|0,1", api.ErrShape},
		{"1,0 0,1|0,0", api.ErrShape},
		{"21,0 0,1|0,0", api.ErrRange},
		{"1,0|21,0", api.ErrShape},
		{"99,99", api.ErrRange},
		{"-21,0", api.ErrRange},
		{"0,0 0,0|0,0 0,21", api.ErrRange},
	} {
		m, e := drive.ParseMatrix(x.text)
		if e != x.want || e != api.OK && len(m) != 0 {
			t.Errorf("%.60q %v %v", x.text, m, e)
		}
	}
}

// P4.5
func TestDriveStringErrors(t *testing.T) {
	for _, x := range []struct {
		text string
		want api.Errno
	}{
		{"0,0", api.OK},
		{"-10000,10000 0,0 1,1", api.OK},
		{strings.Repeat("x", api.MaxString), api.ErrSyntax},
		{strings.Repeat("x", api.MaxString+1), api.ErrLarge},
		{"0,0" + strings.Repeat(" 0,0", 15000), api.ErrLarge},
		{"99999,0 0,0 0,0 0,0", api.ErrLarge},
		{"99999,0 0,0 0,0 0,0 ", api.ErrSyntax},
		{"10001,0", api.ErrRange},
		{"0,0 0,-10001", api.ErrRange},
		{"99999,99999 0,0 0,0", api.ErrRange},
		{"-99999,0", api.ErrRange},
	} {
		l, e := drive.ParseDrive(x.text)
		if e != x.want || e != api.OK && len(l) != 0 {
			t.Errorf("%.60q %v %v", x.text, l, e)
		}
	}
}

// P4.11
func TestStringsBothWays(t *testing.T) {
	for _, m := range goodMatrices() {
		if got, e := drive.ParseMatrix(drive.FormatMatrix(m)); !same(got, m) || e != api.OK {
			t.Error(m, got, e)
		}
	}
	random := fixedRandom()
	for range 300 {
		m := someMatrix(random)
		if got, e := drive.ParseMatrix(drive.FormatMatrix(m)); !same(got, m) || e != api.OK {
			t.Fatal(m, got, e)
		}
		list := someLevels(random, len(m))
		if got, e := drive.ParseDrive(drive.FormatDrive(list)); !slices.Equal(got, list) || e != api.OK {
			t.Fatal(list, got, e)
		}
	}
}
