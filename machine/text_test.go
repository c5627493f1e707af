package machine_test

import (
	"math"
	"strings"
	"testing"

	"guidevane/api"
	"guidevane/machine"
)

// P5.6, example 9.
func TestFormatTable(t *testing.T) {
	for want, x := range map[string]api.MachineTable{
		example:                         goodTable(),
		"":                              {},
		"7":                             tableOf(rowOf(7)),
		"7;-8":                          tableOf(rowOf(7), rowOf(-8)),
		"7 :-1,-2,-3;0 :4,5,6 :0,0,0;1": tableOf(rowOf(7, point(-1, -2, -3)), rowOf(0, point(4, 5, 6), point(0, 0, 0)), rowOf(1)),
		"-9223372036854775808 :9223372036854775807,-9223372036854775808,123456": tableOf(rowOf(math.MinInt, point(math.MaxInt, math.MinInt, 123456))),
	} {
		if s := machine.FormatTable(x); s != want {
			t.Errorf("%q %q", s, want)
		}
	}
}

// P5.6, example 9.
func TestParseTable(t *testing.T) {
	for s, want := range map[string]api.MachineTable{
		example:                           goodTable(),
		"0 :0,0,0 :1,0,0;1 :0,1,0 :1,1,0": tableOf(rowOf(0, point(0, 0, 0), point(1, 0, 0)), rowOf(1, point(0, 1, 0), point(1, 1, 0))),
		"80 :-1000,-1000,-10000 :1000,-1000,10000;100 :-1000,1000,-9 :1000,1000,-10": tableOf(rowOf(80, point(-1000, -1000, -10000), point(1000, -1000, 10000)), rowOf(100, point(-1000, 1000, -9), point(1000, 1000, -10))),
	} {
		if x, e := machine.ParseTable(s); !sameTable(x, want) || e != api.OK {
			t.Errorf("%q %v %v", s, x, e)
		}
	}
	long := strings.Repeat("x", api.MaxString)
	for want, l := range map[api.Errno][]string{
		api.ErrLarge: {long + "x", strings.Repeat(";", 70000), example + strings.Repeat(" ", api.MaxString), strings.Repeat("0;", 6) + "0", strings.Repeat("1 :0,0,0;", 6) + "1", "0" + strings.Repeat(" :0,0,0", 7) + ";1" + strings.Repeat(" :0,0,0", 7)},
		api.ErrShape: {"10", "0", "10 :0,0,0 :1,0,0", "10;20", "10 :0,0,0;20 :0,1,0", "10 :0,0,0 :1,0,0;20 :0,1,0", "10 :0,0,0 :1,0,0;20 :0,1,0 :1,1,0 :2,2,0", "99999"},
		api.ErrRange: {"101 :0,0,0 :1,0,0;102 :0,1,0 :1,1,0", "99999;1", "10 :1001,0,0 :1,0,0;20 :0,1,0 :1,1,0", "10 :0,0,0 :1,-1001,0;20 :0,1,0 :1,1,0", "10 :0,0,0 :1,0,0;20 :0,1,99999 :1,1,0", "10 :0,0,0 :1,0,0;20 :0,1,-99999 :1,1,0", "10 :0,0,0 :-99999,0,0;20 :0,1,0 :1,1,0"},
		api.ErrOrder: {"10 :0,0,0 :1,0,0;10 :0,1,0 :1,1,0", "10 :0,0,0 :1,0,0;0 :0,1,0 :1,1,0"},
		api.ErrBreak: {"10 :0,0,0 :1,0,0;31 :0,1,0 :1,1,0"},
		api.ErrClash: {"10 :0,0,0 :1,0,0;20 :0,-1,0 :1,-1,0"},
		api.ErrSyntax: {
			"", " ", ";", long, strings.Repeat(";", api.MaxString), example + " ", " " + example, example + ";", ";" + example, example + "\n", "10 :0,0", strings.Replace(example, ";", ";;", 1), strings.Replace(example, ";", " ;", 1), strings.Replace(example, ";", "; ", 1),
			strings.Replace(example, ";", " ", 1), strings.Replace(example, " ", "  ", 1), strings.Replace(example, " ", "\t", 1), strings.Replace(example, " :", ":", 1), strings.Replace(example, " :", " ", 1), strings.Replace(example, ":", "::", 1), strings.Replace(example, ":", ": ", 1), strings.Replace(example, ",", ";", 1),
			strings.Replace(example, ",", ", ", 1), strings.Replace(example, ",", ",,", 1), strings.Replace(example, ",0", "", 1), strings.Replace(example, ",0", ",0,0", 1), strings.Replace(example, ",0", ",", 1), strings.Replace(example, "0,0,0", ",0,0", 1), strings.Replace(example, "0,0,0", "", 1), strings.Replace(example, "0,0,0", "0,0,0,", 1),
			":" + example, "-" + example, "+" + example, "0" + example, "-0 :0,0,0 :1,0,0;1 :0,1,0 :1,1,0", "00 :0,0,0 :1,0,0;1 :0,1,0 :1,1,0", "-1 :0,0,0 :1,0,0;1 :0,1,0 :1,1,0", "0 :0,0,0 :1,0,0;-1 :0,1,0 :1,1,0", "100000 :0,0,0 :1,0,0;1 :0,1,0 :1,1,0", "x :0,0,0 :1,0,0;1 :0,1,0 :1,1,0",
			"0 :-0,0,0 :1,0,0;1 :0,1,0 :1,1,0", "0 :0,-0,0 :1,0,0;1 :0,1,0 :1,1,0", "0 :0,0,-0 :1,0,0;1 :0,1,0 :1,1,0", "0 :+1,0,0 :1,0,0;1 :0,1,0 :1,1,0", "0 :0,01,0 :1,0,0;1 :0,1,0 :1,1,0", "0 :0,0,-01 :1,0,0;1 :0,1,0 :1,1,0", "0 :0,0,- :1,0,0;1 :0,1,0 :1,1,0", "0 :0,0,--1 :1,0,0;1 :0,1,0 :1,1,0",
			"0 :0,0,100000 :1,0,0;1 :0,1,0 :1,1,0", "0 :0,0,-100000 :1,0,0;1 :0,1,0 :1,1,0", "0 :100000,0,0 :1,0,0;1 :0,1,0 :1,1,0", "0 :0,-100000,0 :1,0,0;1 :0,1,0 :1,1,0", "0 :0,0,99999999999999999999 :1,0,0;1 :0,1,0 :1,1,0", "0 :a,0,0 :1,0,0;1 :0,1,0 :1,1,0", "0 :0,0,0 :1,0,0;1 :0,1,0 :1,1,1e1", "0 :0,0,0 :1,0,0;1 :0,1,0 :1,1,\u0661",
			"0 :0,0,0 1,0,0;1 :0,1,0 :1,1,0", "0 1 :0,0,0 :1,0,0;1 :0,1,0 :1,1,0", "0 :0,0,0 :1,0,0;:1 :0,1,0 :1,1,0", "0 :0,0,0 :1,0,0;1 :0,1,0 :1,1,0 2", "0 :0,0,0 :1,0,0;1 :0,1,0 :1,1,0 :", "200 :0,0,0 x", "0;1;2;3;4;5;6;7;x",
		},
	} {
		for _, s := range l {
			if got := call(machine.ParseTable(s)); !failed(got, want) {
				t.Errorf("%.80q %v want %v", s, got, want)
			}
		}
	}
}

// P5.14.
func TestStringsAreReversed(t *testing.T) {
	r := random(19)
	for range 5000 {
		x := someTable(r)
		s := machine.FormatTable(x)
		if y, e := machine.ParseTable(s); !sameTable(x, y) || e != api.OK || machine.FormatTable(y) != s {
			t.Fatal(x, s, y, e)
		}
	}
}
