package motion_test

import (
	"math"
	"strings"
	"testing"

	"ductility/api"
	"ductility/motion"
)

// exampleText is the string of the record of the examples.
const exampleText = "10;1 0 -1 2"

// P2.8, example 8
func TestRecordStrings(t *testing.T) {
	for _, x := range []struct {
		r    api.MotionRecord
		text string
	}{
		{exampleRecord(), exampleText},
		{api.MotionRecord{}, "0;"},
		{api.MotionRecord{Step: -5, Samples: []int{7}}, "-5;7"},
		{api.MotionRecord{Step: math.MaxInt, Samples: []int{math.MinInt, 0}}, "9223372036854775807;-9223372036854775808 0"},
	} {
		if s := motion.FormatRecord(x.r); s != x.text {
			t.Errorf("%q", s)
		}
	}
	if r, e := motion.ParseRecord(exampleText); !areSame(r, exampleRecord()) || e != api.OK {
		t.Error(r, e)
	}
}

// P2.8
func TestMalformedRecords(t *testing.T) {
	all := []string{"", ";", "10", "10;", ";1 2", "10;;", "10;1 2;", ";10;1 2", "10;1;2", "10;1 2;3", "10; 1 2", "10;1 2 ", "10;1  2", "10 ;1 2", " 10;1 2", "10;1\t2", "10:1 2", "10,1 2", "-10;1 2", "-0;1 2", "10 10;1 2", "10;1 2\n"}
	for _, word := range []string{"", "-", "+1", "-0", "00", "01", "-01", "--1", "1-", "12345678", "-12345678", "00000001", "1.", "x", "\x00", "٣", "1e2", "0x1"} {
		all = append(all, word+";1 2", "10;"+word+" 2", "10;1 "+word, "10;1 "+word+" 2")
	}
	for _, s := range all {
		if r, e := motion.ParseRecord(s); !isNothing(r) || e != api.ErrSyntax {
			t.Errorf("%q %v %v", s, r, e)
		}
	}
}

// P2.8
func TestRecordStringErrors(t *testing.T) {
	for _, x := range []struct {
		text string
		want api.Errno
	}{
		{strings.Repeat(" ", api.MaxString), api.ErrSyntax},
		{strings.Repeat(" ", api.MaxString+1), api.ErrLarge},
		{"1;" + strings.Repeat("0 ", 23) + "0", api.OK},
		{"1;" + strings.Repeat("0 ", 24) + "0", api.ErrLarge},
		{"1;" + strings.Repeat("0 ", 24) + "x", api.ErrSyntax},
		{"1;" + strings.Repeat("0 ", api.MaxString/2-2) + "0", api.ErrLarge},
		{"1000000;-1000 1000", api.OK},
		{"1000001;1 2", api.ErrRange},
		{"9999999;1", api.ErrRange},
		{"0;1 2", api.ErrRange},
		{"0;1 -0", api.ErrSyntax},
		{"1;1", api.ErrShape},
		{"1;1001", api.ErrShape},
		{"1;0 1001", api.ErrRange},
		{"1;-1001 0", api.ErrRange},
		{"1;-9999999 9999999", api.ErrRange},
	} {
		if r, e := motion.ParseRecord(x.text); e != x.want || e != api.OK && !isNothing(r) {
			t.Errorf("%.20q %v %v", x.text, r, e)
		}
	}
}

// P2.15
func TestRecordsBothWays(t *testing.T) {
	random := fixedRandom()
	for range 300 {
		r := someRecord(random, api.MaxMotionSample)
		if got, e := motion.ParseRecord(motion.FormatRecord(r)); !areSame(got, r) || e != api.OK {
			t.Fatal(r, got, e)
		}
	}
	for _, x := range badRecords() {
		if _, e := motion.ParseRecord(motion.FormatRecord(x.r)); e == api.OK {
			t.Error(x.name)
		}
	}
}
