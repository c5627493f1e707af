package wave_test

import (
	"math"
	"reflect"
	"slices"
	"testing"

	"guidevane/api"
	"guidevane/wave"
)

// sized returns a line with a number of pipes, and of areas.
func sized(pipes, areas int) api.WaveLine {
	return api.WaveLine{Pipes: slices.Repeat([]api.WavePipe{{Cells: 2, Admittance: 3}}, pipes), Areas: make([]int, areas)}
}

// changed returns a line of three pipes with a change.
func changed(change func(x *api.WaveLine)) api.WaveLine {
	x := api.WaveLine{Pipes: []api.WavePipe{{Cells: 1, Admittance: 2}, {Cells: 3, Admittance: 4}, {Cells: 5, Admittance: 6}}, Areas: []int{7, 8}}
	change(&x)
	return x
}

type badLine struct {
	name  string
	line  api.WaveLine
	index int
	want  api.Errno
}

// badLines returns a line for each error of CheckLine, and for each order of two errors.
func badLines() []badLine {
	edit := func(name string, index int, want api.Errno, change func(x *api.WaveLine)) badLine {
		return badLine{name, changed(change), index, want}
	}
	l := []badLine{
		{"nothing", api.WaveLine{}, 0, api.ErrShape},
		{"empty", sized(0, 0), 0, api.ErrShape},
		{"no pipes, an area", sized(0, 1), 0, api.ErrShape},
		{"5 pipes", sized(5, 4), 0, api.ErrLarge},
		{"5 pipes, no areas", sized(5, 0), 0, api.ErrLarge},
		{"many", sized(300, 299), 0, api.ErrLarge},
		{"a pipe, an area", sized(1, 1), 0, api.ErrShape},
		{"3 pipes, an area", sized(3, 1), 0, api.ErrShape},
		{"3 pipes, 3 areas", sized(3, 3), 0, api.ErrShape},
		{"4 pipes, many areas", sized(4, 300), 0, api.ErrShape},
		edit("5 pipes, one of them bad", 0, api.ErrLarge, func(x *api.WaveLine) { x.Pipes = append(x.Pipes, x.Pipes...); x.Pipes[1].Cells = 0 }),
		edit("an area less, and a bad pipe", 0, api.ErrShape, func(x *api.WaveLine) { x.Areas = x.Areas[:1]; x.Pipes[1].Cells = 0 }),
		edit("an area more, and a bad area", 0, api.ErrShape, func(x *api.WaveLine) { x.Areas = []int{1, 21, 2} }),
		edit("a pipe before an earlier area", 2, api.ErrRange, func(x *api.WaveLine) { x.Pipes[2].Cells = 7; x.Areas[0] = -1 }),
		edit("two bad pipes", 1, api.ErrRange, func(x *api.WaveLine) { x.Pipes[2].Cells = 7; x.Pipes[1].Admittance = 0 }),
		edit("two bad areas", 0, api.ErrRange, func(x *api.WaveLine) { x.Areas = []int{21, 21} }),
	}
	for i := range 3 {
		for _, n := range []int{0, -1, 7, 1000, math.MinInt, math.MaxInt} {
			l = append(l, edit("cells", i, api.ErrRange, func(x *api.WaveLine) { x.Pipes[i].Cells = n }))
		}
		for _, n := range []int{0, -1, 11, 1000, math.MinInt, math.MaxInt} {
			l = append(l, edit("admittance", i, api.ErrRange, func(x *api.WaveLine) { x.Pipes[i].Admittance = n }))
		}
	}
	for i := range 2 {
		for _, n := range []int{-1, 21, 1000, math.MinInt, math.MaxInt} {
			l = append(l, edit("area", i, api.ErrRange, func(x *api.WaveLine) { x.Areas[i] = n }))
		}
	}
	return l
}

// P3.1.
func TestCheckLine(t *testing.T) {
	for _, c := range badLines() {
		if i, e := wave.CheckLine(c.line); i != c.index || e != c.want {
			t.Error(c.name, c.line, i, e)
		}
	}
	for _, x := range []api.WaveLine{
		changed(func(x *api.WaveLine) {}), sized(1, 0), sized(2, 1), sized(3, 2), sized(4, 3), parsed(t, "6x10 20 6x10 20 6x10 20 6x10"), parsed(t, "1x1 0 1x1"),
		{Pipes: []api.WavePipe{{Cells: 1, Admittance: 10}}}, {Pipes: []api.WavePipe{{Cells: 6, Admittance: 1}}, Areas: []int{}},
	} {
		if i, e := wave.CheckLine(x); i != 0 || e != api.OK {
			t.Error(x, i, e)
		}
	}
}

// P3.1.
func TestIsPlain(t *testing.T) {
	for s, want := range map[string]bool{
		"2x3": true, "1x1": true, "1x1 2 1x3": false, "1x1 0 1x3": false, "1x3 2 1x3": false, "1x3 0 1x3": true, "1x3 0 6x3": true,
		"1x10 0 2x10 0 3x10 0 4x10": true, "1x10 0 2x10 0 3x10 1 4x10": false, "1x10 1 2x10 0 3x10 0 4x10": false, "1x10 0 2x10 0 3x10 0 4x9": false, "1x9 0 2x10 0 3x10 0 4x10": false, "1x10 0 2x9 0 3x10 0 4x10": false,
	} {
		if plain, e := wave.IsPlain(parsed(t, s)); plain != want || e != api.OK {
			t.Error(s, plain, e)
		}
	}
}

// calls is every function with a line as its argument. The other arguments are as wrong as possible.
func calls(x api.WaveLine) [][]any {
	bad := api.WaveState{Forward: make([]int, 30)}
	law, closings := []int{-1}, make([]int, 300)
	task := api.WaveTask{Closed: -1, Limits: api.Range{Lo: 1, Hi: math.MinInt}}
	call := func(results ...any) []any { return results }
	return [][]any{
		call(wave.IsPlain(x)), call(wave.PressuresOf(x, bad)), call(wave.FlowsOf(x, bad)), call(wave.EnergyOf(x, bad)),
		call(wave.CheckState(x, bad)), call(wave.Stepped(x, bad, math.MinInt)), call(wave.RunOf(x, bad, closings)),
		call(wave.ValvePressures(x, law, -1)), call(wave.HighestOf(x, law, -1)), call(wave.LowestOf(x, law, -1)), call(wave.FirstBeyond(x, law, task)), call(wave.FastestLaw(x, task)),
		call(wave.MatrixOf(x, -1)), call(wave.ImpedanceAt(x, -1)), call(wave.ResonancesOf(x)),
		call(wave.SteadyOf(x, -1, api.Gauss{Re: math.MinInt})), call(wave.StateAt(x, api.WaveSteady{Quarter: -1}, -1)),
	}
}

// P3.1 to P3.6: the error of the line comes first, without its index, and all else is zero.
func TestBadLines(t *testing.T) {
	for _, c := range badLines() {
		for i, got := range calls(c.line) {
			last := len(got) - 1
			for _, result := range got[:last] {
				if !reflect.ValueOf(result).IsZero() {
					t.Error(c.name, i, got)
				}
			}
			if got[last] != c.want {
				t.Error(c.name, i, got)
			}
		}
	}
}

// R2: no call panics or goes on for ever, whatever its arguments are.
func TestAnyArguments(t *testing.T) {
	r := random(1)
	number := func() int {
		l := []int{math.MinInt, math.MinInt + 1, -1000001, -1000000, -1001, -1000, -11, -10, -1, 0, 0, 1, 1, 2, 3, 5, 6, 7, 10, 11, 20, 21, 60, 200, 201, 999, 1000, 1001, 1000000, 1000001, api.MaxTick, api.MaxTick + 1, math.MaxInt - 1, math.MaxInt}
		return l[r.IntN(len(l))]
	}
	numbers := func(n int) []int {
		l := make([]int, r.IntN(n+1))
		for i := range l {
			l[i] = number()
		}
		return l
	}
	gauss := func(n int) []api.Gauss {
		l := make([]api.Gauss, r.IntN(n+1))
		for i := range l {
			l[i] = api.Gauss{Re: number(), Im: number()}
		}
		return l
	}
	for range 20000 {
		x := randomLine(r, 2, 2)
		if r.IntN(4) == 0 {
			x.Areas = numbers(3)
		}
		if r.IntN(4) == 0 {
			x.Pipes[0] = api.WavePipe{Cells: number(), Admittance: number()}
		}
		s := api.WaveState{Forward: numbers(3), Backward: numbers(3), Levels: numbers(2)}
		wave.CheckLine(x)
		calls(x)
		wave.CheckState(x, s)
		wave.PressuresOf(x, s)
		wave.FlowsOf(x, s)
		wave.EnergyOf(x, s)
		wave.Stepped(x, s, number())
		wave.RunOf(x, s, numbers(9))
		wave.CheckLaw(numbers(9))
		wave.ValvePressures(x, numbers(2), number())
		wave.HighestOf(x, numbers(2), number())
		wave.LowestOf(x, numbers(2), number())
		task := api.WaveTask{Closed: number(), Most: number(), Ticks: number(), Limits: api.Range{Lo: number(), Hi: number()}}
		wave.FirstBeyond(x, numbers(2), task)
		wave.FastestLaw(x, task)
		wave.MatrixOf(x, number())
		wave.ImpedanceAt(x, number())
		wave.SteadyOf(x, number(), api.Gauss{Re: number(), Im: number()})
		steady := api.WaveSteady{Quarter: number(), Forward: gauss(3), Backward: gauss(3), Levels: gauss(2), Closed: api.Gauss{Re: number(), Im: number()}}
		wave.StateAt(x, steady, number())
		wave.ParseLine(wave.FormatLine(x))
	}
}

// spoil writes over all memory of a slice, also beyond its end.
func spoil[T any](l []T) {
	clear(l[:cap(l)])
}

// R3 and R4: calls change no argument, and what is done with a result changes neither another part of it nor any argument or later result.
func TestMemory(t *testing.T) {
	x := parsed(t, "2x1 3 3x2 0 1x5")
	line := parsed(t, "2x1 3 3x2 0 1x5")
	s := api.WaveState{Forward: []int{1, 2, 3, 4, 5, 6}, Backward: []int{7, 8, 9, 10, 11, 12}, Levels: []int{13, 14}}
	start := copied(s)
	law, closings := []int{1, 2, 3}, []int{5, -7}
	task := api.WaveTask{Closed: 2, Most: 3, Ticks: 5, Limits: api.Range{Lo: -5, Hi: 5}}
	steady, _ := wave.SteadyOf(x, 1, api.Gauss{Re: 1, Im: 2})
	given, _ := wave.SteadyOf(x, 1, api.Gauss{Re: 1, Im: 2})
	call := func() []any {
		pressures, _ := wave.PressuresOf(x, s)
		flows, _ := wave.FlowsOf(x, s)
		stepped, _ := wave.Stepped(x, s, 4)
		run, _ := wave.RunOf(x, s, closings)
		same, _ := wave.RunOf(x, s, nil)
		valve, _ := wave.ValvePressures(x, law, 9)
		fastest, _ := wave.FastestLaw(x, task)
		resonances, _ := wave.ResonancesOf(parsed(t, "1x1"))
		oscillation, _ := wave.SteadyOf(x, 1, api.Gauss{Re: 3, Im: -2})
		at, _, _ := wave.StateAt(x, steady, 7)
		parsed, _ := wave.ParseLine("1x1 2 1x3")
		highest, _ := wave.HighestOf(x, law, 9)
		beyond, _ := wave.FirstBeyond(x, law, task)
		return []any{pressures, flows, stepped, run, same, valve, fastest, resonances, oscillation, at, parsed, highest, beyond, wave.FormatLine(x)}
	}
	before := call()
	for _, result := range call() {
		switch l := result.(type) {
		case []int:
			spoil(l)
		case api.WaveState:
			own := copied(l)
			if spoil(l.Forward); !slices.Equal(l.Backward, own.Backward) || !slices.Equal(l.Levels, own.Levels) {
				t.Error("the waves of a result share memory", l, own)
			}
			if spoil(l.Backward); !slices.Equal(l.Levels, own.Levels) {
				t.Error("the waves and pressures of a result share memory", l, own)
			}
			spoil(l.Levels)
		case api.WaveSteady:
			backward, levels := slices.Clone(l.Backward), slices.Clone(l.Levels)
			if spoil(l.Forward); !slices.Equal(l.Backward, backward) || !slices.Equal(l.Levels, levels) {
				t.Error("the amplitudes of a result share memory", l)
			}
			if spoil(l.Backward); !slices.Equal(l.Levels, levels) {
				t.Error("the amplitudes of a result share memory", l)
			}
			spoil(l.Levels)
		case api.WaveLine:
			spoil(l.Pipes)
			spoil(l.Areas)
		}
	}
	if after := call(); !reflect.DeepEqual(before, after) {
		t.Error(before, after)
	}
	if !reflect.DeepEqual(x, line) || !sameState(s, start) || !slices.Equal(law, []int{1, 2, 3}) || !slices.Equal(closings, []int{5, -7}) || !reflect.DeepEqual(steady, given) {
		t.Error("an argument was changed", x, s, law, closings, steady)
	}
}
