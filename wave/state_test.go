package wave_test

import (
	"math"
	"slices"
	"testing"

	"guidevane/api"
	"guidevane/wave"
)

// badNumbers is greater in size than any wave may be.
var badNumbers = []int{api.MaxWaveSize + 1, -api.MaxWaveSize - 1, math.MinInt, math.MaxInt, math.MinInt + 1}

type badState struct {
	state api.WaveState
	index int
	want  api.Errno
}

// badStates returns states for each error of a state of the line 1x2 7 3x4 8 5x6, and for each order of two errors.
func badStates() []badState {
	x := changed(func(x *api.WaveLine) {})
	edit := func(index int, want api.Errno, change func(s *api.WaveState)) badState {
		s := restOf(x)
		change(&s)
		return badState{s, index, want}
	}
	l := []badState{
		{api.WaveState{}, 0, api.ErrShape},
		edit(0, api.ErrShape, func(s *api.WaveState) { s.Forward = s.Forward[:8] }),
		edit(0, api.ErrShape, func(s *api.WaveState) { s.Forward = make([]int, 10) }),
		edit(0, api.ErrShape, func(s *api.WaveState) { s.Backward = s.Backward[:8] }),
		edit(0, api.ErrShape, func(s *api.WaveState) { s.Backward = make([]int, 10) }),
		edit(0, api.ErrShape, func(s *api.WaveState) { s.Levels = s.Levels[:1] }),
		edit(0, api.ErrShape, func(s *api.WaveState) { s.Levels = make([]int, 3) }),
		edit(0, api.ErrShape, func(s *api.WaveState) { s.Levels = nil }),
		edit(0, api.ErrShape, func(s *api.WaveState) { s.Forward, s.Backward = make([]int, 10), make([]int, 8) }),
		edit(0, api.ErrShape, func(s *api.WaveState) { s.Backward[4], s.Levels = math.MinInt, nil }),
		edit(0, api.ErrShape, func(s *api.WaveState) { s.Forward[4], s.Backward = math.MinInt, nil }),
		edit(0, api.ErrShape, func(s *api.WaveState) { s.Forward = make([]int, 1000) }),
		edit(2, api.ErrRange, func(s *api.WaveState) { s.Forward[3], s.Backward[2] = 1000001, 1000001 }),
		edit(2, api.ErrRange, func(s *api.WaveState) { s.Forward[2], s.Backward[3] = 1000001, 1000001 }),
		edit(8, api.ErrRange, func(s *api.WaveState) { s.Levels[0], s.Backward[8] = 1000001, 1000001 }),
		edit(0, api.ErrRange, func(s *api.WaveState) { s.Levels = []int{-1000001, 1000001} }),
	}
	for _, bad := range badNumbers {
		for i := range 9 {
			l = append(l, edit(i, api.ErrRange, func(s *api.WaveState) { s.Forward[i] = bad }), edit(i, api.ErrRange, func(s *api.WaveState) { s.Backward[i] = bad }))
		}
		for i := range 2 {
			l = append(l, edit(i, api.ErrRange, func(s *api.WaveState) { s.Levels[i] = bad }))
		}
	}
	return l
}

// P3.2.
func TestCheckState(t *testing.T) {
	x := changed(func(x *api.WaveLine) {})
	for _, c := range badStates() {
		if i, e := wave.CheckState(x, c.state); i != c.index || e != c.want {
			t.Error(c, i, e)
		}
	}
	for _, size := range []int{0, 1, api.MaxWaveSize, -api.MaxWaveSize} {
		s := api.WaveState{Forward: slices.Repeat([]int{size}, 9), Backward: slices.Repeat([]int{-size}, 9), Levels: []int{size, -size}}
		if i, e := wave.CheckState(x, s); i != 0 || e != api.OK {
			t.Error(s, i, e)
		}
	}
	if i, e := wave.CheckState(parsed(t, "1x1"), api.WaveState{Forward: []int{1}, Backward: []int{2}, Levels: []int{}}); i != 0 || e != api.OK {
		t.Error(i, e)
	}
}

// P3.2 and P3.3: the error of the state comes before those of the closings, without its index.
func TestBadStates(t *testing.T) {
	x := changed(func(x *api.WaveLine) {})
	for _, c := range badStates() {
		if l, e := wave.PressuresOf(x, c.state); len(l) > 0 || e != c.want {
			t.Error(c, l, e)
		}
		if l, e := wave.FlowsOf(x, c.state); len(l) > 0 || e != c.want {
			t.Error(c, l, e)
		}
		if n, e := wave.EnergyOf(x, c.state); n != 0 || e != c.want {
			t.Error(c, n, e)
		}
		for _, closed := range []int{0, 1001, math.MinInt} {
			if s, e := wave.Stepped(x, c.state, closed); !isNothing(s) || e != c.want {
				t.Error(c, s, e)
			}
		}
		for _, closed := range [][]int{nil, {0}, {1001}, make([]int, 201)} {
			if s, e := wave.RunOf(x, c.state, closed); !isNothing(s) || e != c.want {
				t.Error(c, s, e)
			}
		}
	}
}

// P3.2.
func TestOfStates(t *testing.T) {
	most := api.MaxWaveSize
	for _, c := range []struct {
		line            string
		state           api.WaveState
		pressures, flow []int
		energy          int
	}{
		{"2x3", api.WaveState{Forward: []int{-5, 0}, Backward: []int{5, 5}}, []int{0, 5}, []int{-30, -15}, 450},
		{"1x1 2 1x3", api.WaveState{Forward: []int{7, 0}, Backward: []int{0, 0}, Levels: []int{3}}, []int{7, 0}, []int{7, 0}, 116},
		{"1x1 2 1x3", api.WaveState{Forward: []int{0, 3}, Backward: []int{-4, 0}, Levels: []int{3}}, []int{-4, 3}, []int{4, 9}, 104},
		{"1x1 2 1x3", api.WaveState{Forward: []int{0, 0}, Backward: []int{0, 0}, Levels: []int{-3}}, []int{0, 0}, []int{0, 0}, 18},
		{"1x1 0 1x3", api.WaveState{Forward: []int{0, 0}, Backward: []int{0, 0}, Levels: []int{-3}}, []int{0, 0}, []int{0, 0}, 0},
		{"1x2 4 2x5 6 1x10", api.WaveState{Forward: []int{1, 2, 3, 4}, Backward: []int{5, -6, 7, 0}, Levels: []int{2, -1}}, []int{6, -4, 10, 4}, []int{-8, 40, -20, 40}, 4*26 + 10*40 + 10*58 + 20*16 + 4*4 + 6},
		{"1x10", api.WaveState{Forward: []int{-most}, Backward: []int{most}}, []int{0}, []int{-20 * most}, 40 * most * most},
		{"1x10 20 1x10", api.WaveState{Forward: []int{most, most}, Backward: []int{most, most}, Levels: []int{-most}}, []int{2 * most, 2 * most}, []int{0, 0}, 100 * most * most},
	} {
		x := parsed(t, c.line)
		if l, e := wave.PressuresOf(x, c.state); !slices.Equal(l, c.pressures) || e != api.OK {
			t.Error(c.line, l, e)
		}
		if l, e := wave.FlowsOf(x, c.state); !slices.Equal(l, c.flow) || e != api.OK {
			t.Error(c.line, l, e)
		}
		if n, e := wave.EnergyOf(x, c.state); n != c.energy || e != api.OK {
			t.Error(c.line, n, e)
		}
	}
}

// P3.2.
func TestOfStatesAgainstModel(t *testing.T) {
	r := random(2)
	for range 500 {
		x := randomLine(r, api.MaxWaveAdmittance, api.MaxWaveArea)
		s := randomState(r, x, api.MaxWaveSize)
		var pressures, flows []int
		forward, backward := pipesOf(x, s.Forward), pipesOf(x, s.Backward)
		for i, p := range x.Pipes {
			for k := range p.Cells {
				pressures = append(pressures, forward[i][k]+backward[i][k])
				flows = append(flows, p.Admittance*(forward[i][k]-backward[i][k]))
			}
		}
		if l, e := wave.PressuresOf(x, s); !slices.Equal(l, pressures) || e != api.OK {
			t.Fatal(x, s, l, e)
		}
		if l, e := wave.FlowsOf(x, s); !slices.Equal(l, flows) || e != api.OK {
			t.Fatal(x, s, l, e)
		}
		if n, e := wave.EnergyOf(x, s); int64(n) != modelEnergy(x, s).Int64() || e != api.OK {
			t.Fatal(x, s, n, e)
		}
	}
}
