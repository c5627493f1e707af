package governor_test

import (
	"math"
	"slices"
	"strings"
	"testing"

	"guidevane/api"
	"guidevane/governor"
)

// P6.8 and example 9: any polynomial has a string, also one that is not valid.
func TestFormatPolynomial(t *testing.T) {
	for _, c := range []struct {
		p    []int
		want string
	}{
		{goodPolynomial(), "1 2 3 1"}, {nil, ""}, {[]int{}, ""}, {[]int{0}, "0"}, {[]int{-5}, "-5"}, {[]int{0, -1, 1000, -1000, 1001, 0, 7}, "0 -1 1000 -1000 1001 0 7"}, {[]int{math.MinInt, math.MaxInt}, "-9223372036854775808 9223372036854775807"},
	} {
		if s := governor.FormatPolynomial(c.p); s != c.want {
			t.Errorf("%v %q", c, s)
		}
	}
}

// P6.8 and example 9.
func TestParsePolynomial(t *testing.T) {
	for s, want := range map[string][]int{
		"1 2 3 1": goodPolynomial(), "1 0": {1, 0}, "7 -3": {7, -3}, "1000 -1000 1000 -1000 1000": {1000, -1000, 1000, -1000, 1000}, "12 345 -67 0": {12, 345, -67, 0},
	} {
		if p, e := governor.ParsePolynomial(s); !slices.Equal(p, want) || e != api.OK {
			t.Errorf("%q %v %v", s, p, e)
		}
	}
	for want, l := range map[api.Errno][]string{
		api.ErrSyntax: {
			"", " ", "  ", "1 2 ", " 1 2", "1  2", "1 2  3", "1\t2", "1,2", "1 2\n", "1 2\x00", "1;2", "1\u00a02",
			"-", "1 -", "- 1 2", "1 --2", "1 -0", "-0 1", "1 +2", "+1 2", "01 2", "1 02", "1 00", "1 -02", "1 2 3 000", "1 2-", "1-2",
			"1 12345678", "12345678 1", "1 -12345678", "1 10000000", "1 -10000000", "1 00000001", "1 99999999999999999999", "1 -99999999999999999999", "1 9223372036854775808", "1 18446744073709551617",
			"a", "1 a", "1 2a", "1 x 2", "0x1 2", "1 1_0", "1 1e1", "1 1.0", "1 \u0661", "\uff11 2", "1 /", "1 :", "1 2 3 4 5 6 x", "1001 0 x", "0 00", strings.Repeat(" ", 70000), strings.Repeat("1", 70000), strings.Repeat("1 ", 70000),
		},
		api.ErrShape: {"1", "0", "-1", "1001", "9999999", "-9999999"},
		api.ErrLarge: {"1 2 3 4 5 6", "0 0 0 0 0 0", "9999999 0 0 0 0 0", "1 2 3 4 5 -9999999", strings.Repeat("1 ", 70000) + "1"},
		api.ErrRange: {"1 1001", "1001 1", "1 -1001", "0 1001", "1 9999999", "1 -9999999", "1 2 3 1234567", "-1001 1", "1 2 3 4 -1234567"},
		api.ErrForm:  {"0 1", "-1 1", "0 0 0 0 0", "-1000 1000"},
	} {
		for _, s := range l {
			if p, e := governor.ParsePolynomial(s); len(p) > 0 || e != want {
				t.Errorf("%.60q %v %v", s, p, e)
			}
		}
	}
}

// P6.16.
func TestStringsAreReversed(t *testing.T) {
	r := random(29)
	for range 5000 {
		p := randomPolynomial(r, between(r, 1, 4))
		s := governor.FormatPolynomial(p)
		if q, e := governor.ParsePolynomial(s); !slices.Equal(p, q) || e != api.OK || governor.FormatPolynomial(q) != s {
			t.Fatal(p, s, q, e)
		}
	}
}
