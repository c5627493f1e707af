package wave_test

import (
	"math"
	"math/big"
	"slices"
	"testing"

	"guidevane/api"
	"guidevane/wave"
)

// badQuarters is no quarters.
var badQuarters = []int{-1, 4, 5, 1000, math.MinInt, math.MaxInt}

func gauss(re, im int) api.Gauss { return api.Gauss{Re: re, Im: im} }

// P3.5.
func TestBadQuarters(t *testing.T) {
	for _, s := range []string{"2x3", "1x3", "1x1 2 1x3"} { // one of them has resonances
		x := parsed(t, s)
		for _, quarter := range badQuarters {
			if m, e := wave.MatrixOf(x, quarter); m != (api.WaveMatrix{}) || e != api.ErrRange {
				t.Error(s, quarter, m, e)
			}
			if z, e := wave.ImpedanceAt(x, quarter); z != (api.WaveRatio{}) || e != api.ErrRange {
				t.Error(s, quarter, z, e)
			}
		}
	}
}

// P3.5, with the edge case of the quarter 0.
func TestMatrixOf(t *testing.T) {
	one := api.WaveMatrix{A: gauss(1, 0), D: gauss(1, 0), Den: 1}
	minus := api.WaveMatrix{A: gauss(-1, 0), D: gauss(-1, 0), Den: 1}
	for _, c := range []struct {
		line    string
		quarter int
		want    api.WaveMatrix
	}{
		{"2x3", 1, minus}, {"2x3", 2, one}, {"2x3", 3, minus}, {"2x3", 0, one}, {"4x10", 1, one}, {"6x10", 3, minus}, {"1x7", 2, minus}, {"3x7", 2, minus},
		{"1x3", 1, api.WaveMatrix{B: gauss(0, -1), C: gauss(0, -9), Den: 3}}, {"1x3", 3, api.WaveMatrix{B: gauss(0, 1), C: gauss(0, 9), Den: 3}}, {"3x3", 1, api.WaveMatrix{B: gauss(0, 1), C: gauss(0, 9), Den: 3}}, {"5x3", 1, api.WaveMatrix{B: gauss(0, -1), C: gauss(0, -9), Den: 3}},
		{"1x1", 1, api.WaveMatrix{B: gauss(0, -1), C: gauss(0, -1), Den: 1}},
		{"1x1 2 1x3", 1, api.WaveMatrix{A: gauss(-1, 0), B: gauss(2, 2), D: gauss(-9, 0), Den: 3}},
		{"1x1 2 1x3", 0, one}, {"6x10 20 5x9 20 4x8 20 3x7", 0, one},
		{"2x2 3 2x2", 2, api.WaveMatrix{A: gauss(1, 0), C: gauss(-6, 0), D: gauss(1, 0), Den: 1}},
		{"2x2 3 2x2", 1, api.WaveMatrix{A: gauss(1, 0), C: gauss(-3, -3), D: gauss(1, 0), Den: 1}},
		{"2x2 3 2x2", 3, api.WaveMatrix{A: gauss(1, 0), C: gauss(-3, 3), D: gauss(1, 0), Den: 1}},
		{"2x4 0 2x6", 1, one},
		{"1x2 0 1x4", 1, api.WaveMatrix{A: gauss(-1, 0), D: gauss(-4, 0), Den: 2}},
		{"1x4 0 1x2", 1, api.WaveMatrix{A: gauss(-4, 0), D: gauss(-1, 0), Den: 2}},
	} {
		if m, e := wave.MatrixOf(parsed(t, c.line), c.quarter); m != c.want || e != api.OK {
			t.Error(c, m, e)
		}
	}
}

// P3.5.
func TestImpedanceAt(t *testing.T) {
	zero := api.WaveRatio{Den: gauss(1, 0)}
	for _, c := range []struct {
		line    string
		quarter int
		want    api.WaveRatio
		e       api.Errno
	}{
		{"2x3", 1, zero, api.OK}, {"2x3", 0, zero, api.OK}, {"1x3", 0, zero, api.OK}, {"1x3", 2, zero, api.OK}, {"2x2 3 2x2", 1, zero, api.OK}, {"6x10 20 5x9 20 4x8 20 3x7", 0, zero, api.OK},
		{"1x3", 1, api.WaveRatio{}, api.ErrOpen}, {"1x3", 3, api.WaveRatio{}, api.ErrOpen}, {"5x3", 1, api.WaveRatio{}, api.ErrOpen},
		{"1x1 2 1x3", 1, api.WaveRatio{Num: gauss(-2, -2), Den: gauss(9, 0)}, api.OK}, {"1x1 2 1x3", 3, api.WaveRatio{Num: gauss(-2, 2), Den: gauss(9, 0)}, api.OK},
		{"1x2 3 2x2", 1, api.WaveRatio{Num: gauss(0, 1), Den: gauss(3, -3)}, api.OK},
		{"1x1 1 2x1", 1, api.WaveRatio{Num: gauss(0, 1), Den: gauss(1, -1)}, api.OK}, {"1x1 1 2x1", 3, api.WaveRatio{Num: gauss(0, -1), Den: gauss(1, 1)}, api.OK},
	} {
		if z, e := wave.ImpedanceAt(parsed(t, c.line), c.quarter); z != c.want || e != c.e {
			t.Error(c, z, e)
		}
	}
}

// P3.5.
func TestResonancesOf(t *testing.T) {
	for s, want := range map[string][]int{"2x3": nil, "1x3": {1, 3}, "1x1 2 1x3": nil, "1x1": {1, 3}, "1x1 0 2x1": {1, 3}, "1x1 1 2x1": nil, "2x1 5 1x1": {1, 3}, "1x2 0 1x3 0 1x4": {1, 3}, "6x1 20 6x1": nil} {
		if l, e := wave.ResonancesOf(parsed(t, s)); !slices.Equal(l, want) || e != api.OK {
			t.Error(s, l, e)
		}
	}
}

// checkQuarters compares all that is known of a line at each quarter, and tells which kinds of denominators it has.
func checkQuarters(t *testing.T, x api.WaveLine) []int {
	t.Helper()
	var resonances, kinds []int
	for quarter := range 4 {
		model := modelMatrix(x, quarter)
		den, l := reduced(model[:]...)
		m, e := wave.MatrixOf(x, quarter)
		if e != api.OK || m != (api.WaveMatrix{A: l[0], B: l[1], C: l[2], D: l[3], Den: den}) {
			t.Fatal(x, quarter, m, l, den, e)
		}
		want, wantError := modelImpedance(x, quarter)
		z, e := wave.ImpedanceAt(x, quarter)
		if z != want || e != wantError {
			t.Fatal(x, quarter, z, e, want)
		}
		if e == api.ErrOpen {
			resonances = append(resonances, quarter)
		}
		kinds = append(kinds, kindOf(m, z))
	}
	if l, e := wave.ResonancesOf(x); !slices.Equal(l, resonances) || e != api.OK {
		t.Fatal(x, l, e)
	}
	return kinds
}

// P3.5.
func TestQuartersAgainstModel(t *testing.T) {
	r := random(10)
	kinds := map[int]bool{}
	for i := range 2000 {
		x := randomLine(r, []int{1, 3, 10}[i%3], []int{1, 4, 20}[i/3%3])
		if i%10 == 0 {
			x = extremeLine(r)
		}
		for _, kind := range checkQuarters(t, x) {
			kinds[kind] = true
		}
	}
	if len(kinds) < 6 {
		t.Error("the lines are too much alike", kinds)
	}
}

// P3.5: at a quarter of each of these lines, only one part of a matrix or of an impedance cannot be divided by what divides all others.
func TestReducedByOnePart(t *testing.T) {
	for _, s := range []string{
		"3x3 0 2x2 2 6x2 0 5x4", "3x1 0 5x3 14 3x6 10 5x3", "1x1 0 5x6 2 5x3 2 1x3", "5x10 1 1x10 16 3x10", "2x6 0 3x2 1 6x2 1 4x1", "3x1 0 4x5 0 3x3 0 3x2", "3x4 2 2x3 6 3x1", "3x2 1 5x4 19 1x4 8 3x2", "5x6 1 5x4 1 1x2 2 1x5",
		"1x2 20 3x6 10 2x2 19 5x9", "1x5 16 2x7 0 3x10 12 5x5", "4x1 0 1x2 1 6x1 2 4x1", "2x3 0 5x3 2 3x3", "5x8 17 3x9 15 5x3 0 1x1",
	} {
		checkQuarters(t, parsed(t, s))
	}
	m, e := wave.MatrixOf(parsed(t, "3x1 0 5x3 14 3x6 10 5x3"), 3)
	if m != (api.WaveMatrix{A: gauss(36, -280), B: gauss(-90, 90), C: gauss(-126, 126), D: gauss(81, 0), Den: 54}) || e != api.OK {
		t.Error(m, e)
	}
	z, e := wave.ImpedanceAt(parsed(t, "5x8 17 3x9 15 5x3 0 1x1"), 1)
	if z != (api.WaveRatio{Num: gauss(-51, -51), Den: gauss(27, 170)}) || e != api.OK {
		t.Error(z, e)
	}
}

// extremeLine has great amplitudes: nearly all of its parts are at their limits.
func extremeLine(r interface{ IntN(int) int }) api.WaveLine {
	x := api.WaveLine{Areas: []int{20, 20, 20}}
	for range 4 {
		x.Pipes = append(x.Pipes, api.WavePipe{Cells: 1 + r.IntN(6), Admittance: 10 - r.IntN(2)})
	}
	return x
}

// kindOf tells which signs D has, and which the denominator of the impedance.
func kindOf(m api.WaveMatrix, z api.WaveRatio) int {
	sign := func(n int) int { return 1 + min(1, max(-1, n)) }
	return 27*sign(m.D.Re) + 9*sign(m.D.Im) + 3*sign(z.Den.Re) + sign(z.Den.Im)
}

// P3.13: the determinant of a matrix is 1.
func TestDeterminants(t *testing.T) {
	r := random(11)
	product := func(a, b api.Gauss) exact { return exactOf(a.Re, a.Im).times(exactOf(b.Re, b.Im)) }
	for range 2000 {
		x := randomLine(r, api.MaxWaveAdmittance, api.MaxWaveArea)
		m, e := wave.MatrixOf(x, r.IntN(4))
		d := product(m.A, m.D).plus(product(m.B, m.C).negative())
		den := big.NewRat(int64(m.Den), 1)
		if e != api.OK || m.Den < 1 || d.im.Sign() != 0 || d.re.Cmp(den.Mul(den, den)) != 0 {
			t.Fatal(x, m, e)
		}
	}
}

// P3.13: resonances of plain lines.
func TestResonancesOfPlainLines(t *testing.T) {
	r := random(12)
	for range 1000 {
		x := randomPlain(r)
		var want []int
		if cellsOf(x)%2 == 1 {
			want = []int{1, 3}
		}
		if l, e := wave.ResonancesOf(x); !slices.Equal(l, want) || e != api.OK {
			t.Fatal(x, l, e)
		}
	}
}

// P3.13: at a resonance the closed valve has an oscillation whose closing is 0, so that the waves of the closed line come again every four ticks.
func TestOscillationsOfResonances(t *testing.T) {
	r := random(13)
	found := 0
	for range 2000 {
		x := randomLine(r, 3, 2)
		resonances, e := wave.ResonancesOf(x)
		if e != api.OK {
			t.Fatal(x, e)
		}
		for _, quarter := range resonances {
			s, e := wave.SteadyOf(x, quarter, gauss(between(r, 1, 3), between(r, -3, 3)))
			if e != api.OK || s.Closed != (api.Gauss{}) {
				t.Fatal(x, quarter, s, e)
			}
			start, closed, e := wave.StateAt(x, s, 0)
			if e != api.OK || closed != 0 || sameState(start, restOf(x)) {
				t.Fatal(x, quarter, start, closed, e)
			}
			if l, e := wave.RunOf(x, start, make([]int, 4)); !sameState(l, start) || e != api.OK {
				t.Fatal(x, quarter, start, l, e)
			}
			found++
		}
	}
	if found < 100 {
		t.Error("few resonances", found)
	}
}
