package wave_test

import (
	"math"
	"slices"
	"testing"

	"guidevane/api"
	"guidevane/wave"
)

func sameSteady(a, b api.WaveSteady) bool {
	return a.Quarter == b.Quarter && slices.Equal(a.Forward, b.Forward) && slices.Equal(a.Backward, b.Backward) && slices.Equal(a.Levels, b.Levels) && a.Closed == b.Closed
}

func isNoSteady(s api.WaveSteady) bool {
	return s.Quarter == 0 && len(s.Forward)+len(s.Backward)+len(s.Levels) == 0 && s.Closed == api.Gauss{}
}

// P3.6.
func TestSteadyOf(t *testing.T) {
	for _, c := range []struct {
		line    string
		quarter int
		flow    api.Gauss
		want    api.WaveSteady
	}{
		{"1x1", 1, gauss(1, 0), api.WaveSteady{Quarter: 1, Forward: []api.Gauss{gauss(1, 0)}, Backward: []api.Gauss{gauss(0, -1)}}},
		{"1x1", 3, gauss(1, 0), api.WaveSteady{Quarter: 3, Forward: []api.Gauss{gauss(1, 0)}, Backward: []api.Gauss{gauss(0, 1)}}},
		{"1x1", 0, gauss(1, 0), api.WaveSteady{Forward: []api.Gauss{gauss(1, 0)}, Backward: []api.Gauss{gauss(-1, 0)}, Closed: gauss(-2, 0)}},
		{"1x1", 1, gauss(2, -3), api.WaveSteady{Quarter: 1, Forward: []api.Gauss{gauss(2, -3)}, Backward: []api.Gauss{gauss(-3, -2)}}},
		{"2x3", 1, gauss(1, 0), api.WaveSteady{Quarter: 1, Forward: []api.Gauss{gauss(1, 0), gauss(0, -1)}, Backward: []api.Gauss{gauss(0, -1), gauss(1, 0)}, Closed: gauss(2, 0)}},
		{"2x3", 2, gauss(0, 1), api.WaveSteady{Quarter: 2, Forward: []api.Gauss{gauss(0, 1), gauss(0, -1)}, Backward: []api.Gauss{gauss(0, 1), gauss(0, -1)}, Closed: gauss(0, -2)}},
		// 6 flow in: the waves 3 and -3. At the end of the first pipe the pressure -6 i, and no flow; 2 (1 + i) (-6 i) = 12 - 12 i flow into the chamber.
		{"1x1 2 1x3", 1, gauss(1, 0), api.WaveSteady{Quarter: 1, Forward: []api.Gauss{gauss(3, 0), gauss(-2, -1)}, Backward: []api.Gauss{gauss(0, -3), gauss(5, 2)}, Levels: []api.Gauss{gauss(0, -6)}, Closed: gauss(6, 0)}},
		{"1x1 2 1x3", 1, gauss(0, 0), api.WaveSteady{Quarter: 1, Forward: make([]api.Gauss, 2), Backward: make([]api.Gauss, 2), Levels: make([]api.Gauss, 1)}},
	} {
		if s, e := wave.SteadyOf(parsed(t, c.line), c.quarter, c.flow); !sameSteady(s, c.want) || e != api.OK {
			t.Error(c, s, e)
		}
	}
}

// P3.6.
func TestSteadyErrors(t *testing.T) {
	x := parsed(t, "1x1 2 1x3")
	bad := []int{11, -11, math.MinInt, math.MaxInt}
	for _, quarter := range badQuarters {
		for _, n := range append(bad, 1) {
			if s, e := wave.SteadyOf(x, quarter, gauss(n, n)); !isNoSteady(s) || e != api.ErrRange {
				t.Error(quarter, n, s, e)
			}
		}
	}
	for quarter := range 4 {
		for _, n := range bad {
			for _, g := range []api.Gauss{gauss(n, 0), gauss(0, n), gauss(n, 10)} {
				if s, e := wave.SteadyOf(x, quarter, g); !isNoSteady(s) || e != api.ErrRange {
					t.Error(quarter, g, s, e)
				}
			}
		}
		for _, g := range []api.Gauss{gauss(10, 10), gauss(-10, -10), gauss(10, -10)} {
			if s, e := wave.SteadyOf(x, quarter, g); s.Quarter != quarter || len(s.Forward) != 2 || e != api.OK {
				t.Error(quarter, g, s, e)
			}
		}
	}
}

// P3.6, with the edge case of the flow 0.
func TestSteadyAgainstModel(t *testing.T) {
	r := random(14)
	for i := range 1000 {
		x := randomLine(r, []int{1, 3, 10}[i%3], []int{1, 4, 20}[i/3%3])
		if i%10 == 0 {
			x = extremeLine(r)
		}
		g := gauss(between(r, -10, 10), between(r, -10, 10))
		for quarter := range 4 {
			want, whole := modelSteady(x, quarter, g)
			if s, e := wave.SteadyOf(x, quarter, g); !whole || !sameSteady(s, want) || e != api.OK {
				t.Fatal(x, quarter, g, s, e, want)
			}
			nothing := api.WaveSteady{Quarter: quarter, Forward: make([]api.Gauss, cellsOf(x)), Backward: make([]api.Gauss, cellsOf(x)), Levels: make([]api.Gauss, len(x.Areas))}
			if s, e := wave.SteadyOf(x, quarter, api.Gauss{}); !sameSteady(s, nothing) || e != api.OK {
				t.Fatal(x, quarter, s, e)
			}
		}
	}
}

// P3.6.
func TestStateAt(t *testing.T) {
	x := parsed(t, "1x1 2 1x3")
	for _, c := range []struct {
		quarter, tick int
		want          []int // the waves 1 + 2 i, 3 - 4 i, -5 + 6 i and -7 - 8 i, the pressure 9 - 10 i, and the closing 11 + 12 i
	}{
		{0, 0, []int{1, 3, -5, -7, 9, 11}}, {0, 1, []int{1, 3, -5, -7, 9, 11}}, {1, 0, []int{1, 3, -5, -7, 9, 11}}, {1, 1, []int{-2, 4, -6, 8, 10, -12}}, {1, 2, []int{-1, -3, 5, 7, -9, -11}}, {1, 3, []int{2, -4, 6, -8, -10, 12}}, {1, 4, []int{1, 3, -5, -7, 9, 11}},
		{2, 1, []int{-1, -3, 5, 7, -9, -11}}, {2, 2, []int{1, 3, -5, -7, 9, 11}}, {3, 1, []int{2, -4, 6, -8, -10, 12}}, {3, 3, []int{-2, 4, -6, 8, 10, -12}}, {3, 2, []int{-1, -3, 5, 7, -9, -11}},
		{1, api.MaxTick, []int{1, 3, -5, -7, 9, 11}}, {1, api.MaxTick - 1, []int{2, -4, 6, -8, -10, 12}}, {3, api.MaxTick - 1, []int{-2, 4, -6, 8, 10, -12}}, {3, api.MaxTick - 2, []int{-1, -3, 5, 7, -9, -11}},
	} {
		s := api.WaveSteady{Quarter: c.quarter, Forward: []api.Gauss{gauss(1, 2), gauss(3, -4)}, Backward: []api.Gauss{gauss(-5, 6), gauss(-7, -8)}, Levels: []api.Gauss{gauss(9, -10)}, Closed: gauss(11, 12)}
		l, closed, e := wave.StateAt(x, s, c.tick)
		if e != api.OK || !sameState(l, api.WaveState{Forward: c.want[:2], Backward: c.want[2:4], Levels: c.want[4:5]}) || closed != c.want[5] {
			t.Error(c, l, closed, e)
		}
	}
}

// P3.6.
func TestStateAtErrors(t *testing.T) {
	x := parsed(t, "1x1 2 1x3")
	check := func(want api.Errno, tick int, change func(s *api.WaveSteady)) {
		t.Helper()
		s := api.WaveSteady{Quarter: 1, Forward: make([]api.Gauss, 2), Backward: make([]api.Gauss, 2), Levels: make([]api.Gauss, 1)}
		change(&s)
		if l, closed, e := wave.StateAt(x, s, tick); e != want || closed != 0 || isNothing(l) != (want != api.OK) {
			t.Error(s, tick, l, closed, e)
		}
	}
	none := func(s *api.WaveSteady) {}
	for _, tick := range []int{-1, api.MaxTick + 1, math.MinInt, math.MaxInt} {
		check(api.ErrRange, tick, none)
		check(api.ErrShape, tick, func(s *api.WaveSteady) { s.Levels = nil })
	}
	check(api.OK, 0, none)
	check(api.OK, api.MaxTick, none)
	for _, n := range []int{0, 1, 3, 100} {
		if n != 1 {
			check(api.ErrShape, 0, func(s *api.WaveSteady) { s.Levels = make([]api.Gauss, n) })
		}
		check(api.ErrShape, 0, func(s *api.WaveSteady) { s.Forward = make([]api.Gauss, n) })
		check(api.ErrShape, 0, func(s *api.WaveSteady) { s.Backward = make([]api.Gauss, n) })
	}
	check(api.ErrShape, 0, func(s *api.WaveSteady) { s.Forward, s.Backward = make([]api.Gauss, 3), make([]api.Gauss, 1) })
	check(api.ErrShape, 0, func(s *api.WaveSteady) { s.Forward, s.Levels = make([]api.Gauss, 1), make([]api.Gauss, 2) })
	for _, quarter := range badQuarters {
		check(api.ErrRange, 0, func(s *api.WaveSteady) { s.Quarter = quarter })
		check(api.ErrRange, 0, func(s *api.WaveSteady) { s.Quarter, s.Levels = quarter, nil })
	}
	for _, bad := range badNumbers {
		for _, z := range []api.Gauss{gauss(bad, 0), gauss(0, bad)} {
			for i := range 2 {
				check(api.ErrRange, 0, func(s *api.WaveSteady) { s.Forward[i] = z })
				check(api.ErrRange, 0, func(s *api.WaveSteady) { s.Backward[i] = z })
			}
			check(api.ErrRange, 0, func(s *api.WaveSteady) { s.Levels[0] = z })
			check(api.ErrRange, 0, func(s *api.WaveSteady) { s.Closed = z })
			check(api.ErrShape, 0, func(s *api.WaveSteady) { s.Closed, s.Levels = z, nil })
			check(api.ErrShape, 0, func(s *api.WaveSteady) { s.Forward[0], s.Backward = z, nil })
		}
	}
	most := api.MaxWaveSize
	for _, z := range []api.Gauss{gauss(most, most), gauss(-most, -most), gauss(most, -most)} {
		check(api.OK, 0, func(s *api.WaveSteady) { s.Forward[1], s.Backward[1], s.Levels[0] = z, z, z })
	}
	s := api.WaveSteady{Quarter: 1, Forward: make([]api.Gauss, 2), Backward: make([]api.Gauss, 2), Levels: make([]api.Gauss, 1), Closed: gauss(most, -most)}
	if _, closed, e := wave.StateAt(x, s, 1); closed != most || e != api.OK {
		t.Error(closed, e)
	}
}

// P3.6: any oscillation has states, also one that no line has.
func TestStateAtAgainstModel(t *testing.T) {
	r := random(15)
	amplitudes := func(n int) []api.Gauss {
		l := make([]api.Gauss, n)
		for i := range l {
			l[i] = gauss(between(r, -api.MaxWaveSize, api.MaxWaveSize), between(r, -api.MaxWaveSize, api.MaxWaveSize))
		}
		return l
	}
	for i := range 1000 {
		x := randomLine(r, api.MaxWaveAdmittance, api.MaxWaveArea)
		s := api.WaveSteady{Quarter: r.IntN(4), Forward: amplitudes(cellsOf(x)), Backward: amplitudes(cellsOf(x)), Levels: amplitudes(len(x.Areas)), Closed: amplitudes(1)[0]}
		tick := r.IntN([]int{9, api.MaxTick}[i%2])
		want, wantClosed := modelStateAt(s, tick)
		if l, closed, e := wave.StateAt(x, s, tick); !sameState(l, want) || closed != wantClosed || e != api.OK {
			t.Fatal(x, s, tick, l, closed, e)
		}
	}
}

// P3.12: the grid follows the oscillation.
func TestGridAndOscillationAgree(t *testing.T) {
	r := random(16)
	stepped := 0
	for i := range 3000 {
		x := randomLine(r, []int{1, 3, 10}[i%3], []int{1, 4, 20}[i/3%3])
		s, e := wave.SteadyOf(x, r.IntN(4), gauss(between(r, -10, 10), between(r, -10, 10)))
		if e != api.OK {
			t.Fatal(x, e)
		}
		for _, tick := range []int{0, 1, 2, 3, r.IntN(api.MaxTick), api.MaxTick - 1} {
			before, _, e := wave.StateAt(x, s, tick)
			after, closed, f := wave.StateAt(x, s, tick+1)
			if e != api.OK {
				before, _ = modelStateAt(s, tick)
				after, closed = modelStateAt(s, tick+1)
			}
			if next, _ := modelTick(x, before, closed); !sameState(next, after) || e != f {
				t.Fatal(x, s, tick, before, after, next, closed, e, f)
			}
			if next, e := wave.Stepped(x, before, closed); e == api.OK {
				stepped++
				if !sameState(next, after) {
					t.Fatal(x, s, tick, before, after, next, closed)
				}
			}
		}
	}
	if stepped < 1000 {
		t.Error("few closings are small enough", stepped)
	}
}
