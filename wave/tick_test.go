package wave_test

import (
	"math"
	"slices"
	"testing"

	"guidevane/api"
	"guidevane/wave"
)

// P3.3.
func TestStepped(t *testing.T) {
	most := api.MaxWaveSize
	for _, c := range []struct {
		line   string
		before api.WaveState
		closed int
		after  api.WaveState
	}{
		{"2x3", api.WaveState{Forward: []int{0, 0}, Backward: []int{0, 0}}, 5, api.WaveState{Forward: []int{0, 0}, Backward: []int{0, 5}}},
		{"2x3", api.WaveState{Forward: []int{0, 0}, Backward: []int{0, 5}}, 5, api.WaveState{Forward: []int{0, 0}, Backward: []int{5, 5}}},
		{"2x3", api.WaveState{Forward: []int{0, 0}, Backward: []int{5, 5}}, 5, api.WaveState{Forward: []int{-5, 0}, Backward: []int{5, 5}}},
		{"2x3", api.WaveState{Forward: []int{-5, 0}, Backward: []int{5, 5}}, 5, api.WaveState{Forward: []int{-5, -5}, Backward: []int{5, 5}}},
		{"2x3", api.WaveState{Forward: []int{-5, -5}, Backward: []int{5, 5}}, 5, api.WaveState{Forward: []int{-5, -5}, Backward: []int{5, 0}}},
		{"4x1", api.WaveState{Forward: []int{1, 2, 3, 4}, Backward: []int{5, 6, 7, 8}}, -9, api.WaveState{Forward: []int{-5, 1, 2, 3}, Backward: []int{6, 7, 8, -5}}},
		{"1x1", api.WaveState{Forward: []int{3}, Backward: []int{8}}, 100, api.WaveState{Forward: []int{-8}, Backward: []int{103}}}, // a pipe of one cell
		{"1x1", api.WaveState{Forward: []int{most}, Backward: []int{-most}}, 1000, api.WaveState{Forward: []int{most}, Backward: []int{most + 1000}}},
		{"1x1", api.WaveState{Forward: []int{-most}, Backward: []int{most}}, -1000, api.WaveState{Forward: []int{-most}, Backward: []int{-most - 1000}}},
		{"1x1 2 1x3", api.WaveState{Forward: []int{7, 0}, Backward: []int{0, 0}, Levels: []int{3}}, 0, api.WaveState{Forward: []int{0, 3}, Backward: []int{-4, 0}, Levels: []int{3}}},
		{"1x1 2 1x3", api.WaveState{Forward: []int{-7, 0}, Backward: []int{0, 0}, Levels: []int{-3}}, 0, api.WaveState{Forward: []int{0, -3}, Backward: []int{4, 0}, Levels: []int{-3}}}, // -20 / 6 towards 0
		{"1x1 2 1x3", api.WaveState{Forward: []int{0, 0}, Backward: []int{0, -1}, Levels: []int{0}}, 0, api.WaveState{Forward: []int{0, 0}, Backward: []int{-1, 0}, Levels: []int{-1}}},
		{"1x1 2 1x3", api.WaveState{Forward: []int{0, 0}, Backward: []int{0, 0}, Levels: []int{-2}}, 0, api.WaveState{Forward: []int{0, 0}, Backward: []int{0, 0}, Levels: []int{0}}}, // -4 / 6
		{"1x1 0 1x1", api.WaveState{Forward: []int{7, 2}, Backward: []int{3, 4}, Levels: []int{999}}, 0, api.WaveState{Forward: []int{-3, 7}, Backward: []int{4, 2}, Levels: []int{11}}},
		{"2x1 0 1x2 5 2x3", api.WaveState{Forward: []int{1, 2, 3, 4, 5}, Backward: []int{6, 7, 8, 9, 10}, Levels: []int{50, 60}}, 11, api.WaveState{Forward: []int{-6, 1, 4, 27, 4}, Backward: []int{7, 10, 33, 10, 16}, Levels: []int{12, 36}}},
	} {
		x := parsed(t, c.line)
		if s, e := wave.Stepped(x, c.before, c.closed); !sameState(s, c.after) || e != api.OK {
			t.Error(c, s, e)
		}
		if s, e := wave.RunOf(x, c.before, []int{c.closed}); !sameState(s, c.after) || e != api.OK {
			t.Error(c, s, e)
		}
	}
}

// P3.3.
func TestBadClosings(t *testing.T) {
	x, s := parsed(t, "2x3"), api.WaveState{Forward: []int{1, 2}, Backward: []int{3, 4}}
	for _, bad := range []int{1001, -1001, math.MinInt, math.MaxInt} {
		if l, e := wave.Stepped(x, s, bad); !isNothing(l) || e != api.ErrRange {
			t.Error(bad, l, e)
		}
		for _, closed := range [][]int{{bad}, {0, bad}, append(make([]int, 199), bad)} {
			if l, e := wave.RunOf(x, s, closed); !isNothing(l) || e != api.ErrRange {
				t.Error(closed, l, e)
			}
		}
		if l, e := wave.RunOf(x, s, append(make([]int, 200), bad)); !isNothing(l) || e != api.ErrLarge {
			t.Error(bad, l, e)
		}
		if l, e := wave.RunOf(x, s, append([]int{bad}, make([]int, 200)...)); !isNothing(l) || e != api.ErrLarge {
			t.Error(bad, l, e)
		}
	}
	if l, e := wave.RunOf(x, s, make([]int, 201)); !isNothing(l) || e != api.ErrLarge {
		t.Error(l, e)
	}
	for _, closed := range [][]int{nil, {}} {
		if l, e := wave.RunOf(x, s, closed); !sameState(l, s) || e != api.OK {
			t.Error(l, e)
		}
	}
	if l, e := wave.RunOf(x, s, make([]int, 200)); !sameState(l, s) || e != api.OK { // 25 rounds
		t.Error(l, e)
	}
}

// P3.3.
func TestTicksAgainstModel(t *testing.T) {
	r := random(3)
	for i := range 2000 {
		x := randomLine(r, api.MaxWaveAdmittance, api.MaxWaveArea)
		s := randomState(r, x, []int{0, 3, 100, api.MaxWaveSize}[i%4])
		closed := randomNumbers(r, r.IntN(api.MaxWaveTicks+1), -api.MaxWaveClosed, api.MaxWaveClosed)
		if i%3 == 0 {
			clear(closed)
		}
		want := s
		for tick, c := range closed {
			next, _ := modelTick(x, want, c)
			if tick == 0 {
				if l, e := wave.Stepped(x, s, c); !sameState(l, next) || e != api.OK {
					t.Fatal(x, s, c, l, next, e)
				}
			}
			want = next
		}
		if l, e := wave.RunOf(x, s, closed); !sameState(l, want) || e != api.OK {
			t.Fatal(x, s, closed, l, want, e)
		}
	}
}

// P3.3, edge cases: a junction without an area does not store, and lets all waves through if both admittances are equal.
func TestJunctionsWithoutArea(t *testing.T) {
	r := random(4)
	for range 500 {
		x := randomLine(r, api.MaxWaveAdmittance, 0)
		s := randomState(r, x, 1000)
		other := copied(s)
		other.Levels = randomNumbers(r, len(x.Areas), -1000, 1000)
		a, e := wave.Stepped(x, s, 7)
		b, f := wave.Stepped(x, other, 7)
		if e != api.OK || f != api.OK || !sameState(a, b) {
			t.Fatal(x, s, other, a, b)
		}
	}
	for range 500 {
		cells, y := between(r, 1, 5), between(r, 1, 10)
		two := api.WaveLine{Pipes: []api.WavePipe{{Cells: cells, Admittance: y}, {Cells: 6 - cells, Admittance: y}}, Areas: []int{0}}
		one := api.WaveLine{Pipes: []api.WavePipe{{Cells: 6, Admittance: y}}}
		s := randomState(r, two, 1000)
		whole := copied(s)
		whole.Levels = nil
		a, e := wave.Stepped(two, s, 7)
		b, f := wave.Stepped(one, whole, 7)
		if e != api.OK || f != api.OK || !slices.Equal(a.Forward, b.Forward) || !slices.Equal(a.Backward, b.Backward) {
			t.Fatal(two, s, a, b)
		}
	}
}

// P3.8.
func TestNoEnergyIsMade(t *testing.T) {
	r := random(5)
	for i := range 5000 {
		x := randomLine(r, api.MaxWaveAdmittance, api.MaxWaveArea)
		s := randomState(r, x, []int{1, 3, 100, 10000, api.MaxWaveSize}[i%5])
		next, e := wave.Stepped(x, s, 0)
		if e != api.OK || modelEnergy(x, next).Cmp(modelEnergy(x, s)) > 0 {
			t.Fatal(x, s, next, e)
		}
		before, _ := wave.EnergyOf(x, s)
		if after, e := wave.EnergyOf(x, next); e == api.OK && after > before {
			t.Fatal(x, s, before, after)
		}
	}
}

// P3.10.
func TestSums(t *testing.T) {
	r := random(6)
	plus := func(a, b []int) []int {
		sum := slices.Clone(a)
		for i := range b {
			sum[i] += b[i]
		}
		return sum
	}
	sum := func(a, b api.WaveState) api.WaveState {
		return api.WaveState{Forward: plus(a.Forward, b.Forward), Backward: plus(a.Backward, b.Backward), Levels: plus(a.Levels, b.Levels)}
	}
	for range 2000 {
		x := randomPlain(r)
		s, u := randomState(r, x, 500000), randomState(r, x, 500000)
		c, d := between(r, -500, 500), between(r, -500, 500)
		a, _ := wave.Stepped(x, s, c)
		b, _ := wave.Stepped(x, u, d)
		if l, e := wave.Stepped(x, sum(s, u), c+d); !sameState(l, sum(a, b)) || e != api.OK {
			t.Fatal(x, s, u, c, d, l, e)
		}
	}
}
