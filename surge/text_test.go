package surge_test

import (
	"math"
	"strings"
	"testing"

	"guidevane/api"
	"guidevane/surge"
)

func rulesOf(inertia, area, lo, hi, throttle int) api.SurgeRules {
	return api.SurgeRules{Inertia: inertia, Area: area, Friction: api.Range{Lo: lo, Hi: hi}, Throttle: throttle}
}

// P4.7.
func TestFormatRules(t *testing.T) {
	for want, r := range map[string]api.SurgeRules{
		"10 5 0 2 0":           goodRules(),
		"1 2 3 4 5":            rulesOf(1, 2, 3, 4, 5),
		"1000 1000 100 100 99": rulesOf(1000, 1000, 100, 100, 99),
		"0 0 0 0 0":            {},
		"-1 -9223372036854775808 9223372036854775807 -20 100000": rulesOf(-1, math.MinInt, math.MaxInt, -20, 100000),
	} {
		if s := surge.FormatRules(r); s != want {
			t.Errorf("%q %q", s, want)
		}
	}
}

// P4.7.
func TestParseRules(t *testing.T) {
	for s, want := range map[string]api.SurgeRules{
		"10 5 0 2 0":            goodRules(),
		"2 1 0 0 0":             rulesOf(2, 1, 0, 0, 0),
		"1000 1000 100 100 100": rulesOf(1000, 1000, 100, 100, 100),
		"600 7 12 34 56":        rulesOf(600, 7, 12, 34, 56),
		"1000 999 9 10 1":       rulesOf(1000, 999, 9, 10, 1),
	} {
		if r, e := surge.ParseRules(s); r != want || e != api.OK {
			t.Errorf("%q %v %v", s, r, e)
		}
	}
	for want, l := range map[api.Errno][]string{
		api.ErrSyntax: {
			"", " ", "    ", "10", "10 5 0 2", "10 5 0 2 ", " 10 5 0 2 0", "10 5 0 2 0 ", "10  5 0 2 0", "10 5 0 2  0", "10 5 0 2 0 0", "10 5 0  2", " 5 0 2 0", "10,5,0,2,0", "10\t5\t0\t2\t0", "10 5 0 2 0\n", "10 5 0 2\n0", "1052000",
			"-10 5 0 2 0", "10 -5 0 2 0", "10 5 -0 2 0", "10 5 0 -2 0", "10 5 0 2 -0", "10 5 0 2 -1", "+10 5 0 2 0", "10 +5 0 2 0", "10 5 +0 2 0", "10 5 0 +2 0", "10 5 0 2 +0",
			"010 5 0 2 0", "10 05 0 2 0", "10 5 00 2 0", "10 5 0 02 0", "10 5 0 2 00", "0010 5 0 2 0", "10000 5 0 2 0", "10 10000 0 2 0", "10 5 10000 2 0", "10 5 0 10000 0", "10 5 0 2 10000", "00010 5 0 2 0", "99999999999999999999 5 0 2 0", "10 5 0 2 99999999999999999999",
			"a 5 0 2 0", "10 5 0 2 a", "10 5 x 2 0", "1_0 5 0 2 0", "1e1 5 0 2 0", "0x1 5 0 2 0", "1.0 5 0 2 0", "10 5 0 2 \u0661", "\uff11 5 0 2 0", "10 / 0 2 0", "10 : 0 2 0", "10 5 0 2 0\x00", "10 5 - 2 0",
			"0 0 9 1 x", "9999 9999 9999 9999 10000", strings.Repeat("1 ", 70000) + "1", strings.Repeat(" ", 70000), strings.Repeat("1", 70000) + " 5 0 2 0",
		},
		api.ErrRange: {"0 5 0 2 0", "1001 5 0 2 0", "10 0 0 2 0", "10 1001 0 2 0", "10 5 101 2 0", "10 5 0 101 0", "10 5 0 2 101", "9999 5 0 2 0", "10 9999 0 2 0", "10 5 9999 2 0", "10 5 0 9999 0", "10 5 0 2 9999", "1 5 3 2 101", "0 0 0 0 0"},
		api.ErrOrder: {"10 5 3 2 0", "1 1 100 0 0"},
		api.ErrClash: {"6 5 0 2 0", "1 1 0 0 0", "602 5 0 100 100"},
	} {
		for _, s := range l {
			if r, e := surge.ParseRules(s); r != (api.SurgeRules{}) || e != want {
				t.Errorf("%.60q %v %v", s, r, e)
			}
		}
	}
}

// P4.14.
func TestStringsAreReversed(t *testing.T) {
	r := random(16)
	for range 5000 {
		x := randomRules(r)
		s := surge.FormatRules(x)
		if y, e := surge.ParseRules(s); x != y || e != api.OK || surge.FormatRules(y) != s {
			t.Fatal(x, s, y, e)
		}
	}
}
