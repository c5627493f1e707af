package wave_test

import (
	"math"
	"reflect"
	"strings"
	"testing"

	"guidevane/api"
	"guidevane/wave"
)

func pipe(cells, admittance int) api.WavePipe {
	return api.WavePipe{Cells: cells, Admittance: admittance}
}

func lineWith(areas []int, pipes ...api.WavePipe) api.WaveLine {
	return api.WaveLine{Pipes: pipes, Areas: areas}
}

// P3.7.
func TestFormatLine(t *testing.T) {
	for _, c := range []struct {
		line api.WaveLine
		want string
	}{
		{lineWith([]int{2}, pipe(1, 1), pipe(1, 3)), "1x1 2 1x3"},
		{lineWith(nil, pipe(2, 3)), "2x3"},
		{lineWith([]int{0, 20, 7}, pipe(1, 10), pipe(2, 9), pipe(3, 8), pipe(6, 7)), "1x10 0 2x9 20 3x8 7 6x7"},
		{lineWith(nil, pipe(1, 2), pipe(3, 4)), "1x2 0 3x4"},
		{lineWith([]int{5}, pipe(1, 2), pipe(3, 4), pipe(5, 6)), "1x2 5 3x4 0 5x6"},
		{lineWith([]int{5, 6}, pipe(1, 2)), "1x2"},
		{lineWith([]int{5, 6, 7}, pipe(1, 2), pipe(3, 4)), "1x2 5 3x4"},
		{lineWith(nil), ""},
		{lineWith([]int{5}), ""},
		{lineWith([]int{math.MinInt}, pipe(-1, 0), pipe(math.MaxInt, 1000)), "-1x0 -9223372036854775808 9223372036854775807x1000"},
		{lineWith(nil, make([]api.WavePipe, 300)...), strings.Repeat("0x0 0 ", 299) + "0x0"},
	} {
		if s := wave.FormatLine(c.line); s != c.want {
			t.Error(c, s)
		}
	}
}

// P3.7.
func TestParseLine(t *testing.T) {
	for s, want := range map[string]api.WaveLine{
		"1x1 2 1x3":               lineWith([]int{2}, pipe(1, 1), pipe(1, 3)),
		"2x3":                     lineWith(nil, pipe(2, 3)),
		"6x10 20 1x1 0 3x4 1 5x6": lineWith([]int{20, 0, 1}, pipe(6, 10), pipe(1, 1), pipe(3, 4), pipe(5, 6)),
	} {
		if x, e := wave.ParseLine(s); !reflect.DeepEqual(x, want) || e != api.OK {
			t.Error(s, x, e)
		}
	}
	long := strings.Repeat("1x1 0 ", 20000) + "1x1"
	for want, l := range map[api.Errno][]string{
		api.ErrSyntax: {
			"", " ", "x", "1", "1x", "x1", "1 1", "1x1x1", "1xx1", "1X1", "1*1", "1x1 2", "1x1 2 ", " 1x1", "1x1 ", "1x1  1x1", "1x1  2 1x1", "1x1 2  1x1", "2 1x1 2", "1x1 1x1", "1x1 1x1 1x1", "1x1 2 3", "1 2 1x1", "1x1 2 1x1 2", "1x1\t2\t1x1", "1x1\n", "1x1,2,1x1", "1 x 1",
			"-1x1", "1x-1", "1x1 -1 1x1", "+1x1", "1x+1", "1x1 +1 1x1", "-0x1", "1x-0", "1x1 -0 1x1", "01x1", "1x01", "1x1 01 1x1", "1x1 00 1x1", "00x1", "1x1 000 1x1", "001x1", "1000x1", "1x1000", "1x1 1000 1x1", "99999999999999999999x1", "1x99999999999999999999", "1x1 99999999999999999999 1x1",
			"ax1", "1xa", "1x1 a 1x1", "0x1x1", "1_0x1", "1.0x1", "1e0x1", "1x1 1_0 1x1", "\u0661x1", "1x\u0661", "1x1 / 1x1", "1x1 : 1x1", "/x1", ":x1", "\x00x1", "1x1\x00",
			"1x1 2 1x1 2 1x1 2 1x1 2 1x1 2", "9x9 99 9x9 x", "7x1 2 1xa", long + " 0", long + "x", strings.Repeat(" ", 70000), strings.Repeat("x", 70000),
		},
		api.ErrLarge: {"1x1 0 1x1 0 1x1 0 1x1 0 1x1", "0x0 999 0x0 999 0x0 999 0x0 999 0x0", long},
		api.ErrRange: {"0x1", "1x0", "7x1", "1x11", "999x1", "1x999", "1x1 21 1x1", "1x1 999 1x1", "1x1 20 1x1 21 1x1", "0x0 0 0x0"},
	} {
		for _, s := range l {
			if x, e := wave.ParseLine(s); len(x.Pipes)+len(x.Areas) > 0 || e != want {
				t.Errorf("%.60q %v %v", s, x, e)
			}
		}
	}
}

// P3.14.
func TestStringsAreReversed(t *testing.T) {
	r := random(17)
	for range 3000 {
		x := randomLine(r, api.MaxWaveAdmittance, api.MaxWaveArea)
		s := wave.FormatLine(x)
		y, e := wave.ParseLine(s)
		if e != api.OK || !reflect.DeepEqual(x, y) || wave.FormatLine(y) != s {
			t.Fatal(x, s, y, e)
		}
	}
}
