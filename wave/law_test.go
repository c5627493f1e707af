package wave_test

import (
	"math"
	"slices"
	"testing"

	"guidevane/api"
	"guidevane/wave"
)

type badLaw struct {
	law   []int
	index int
	want  api.Errno
}

// badLaws returns laws for each error of CheckLaw, and for each order of two errors.
func badLaws() []badLaw {
	return []badLaw{
		{make([]int, 61), 0, api.ErrLarge}, {slices.Repeat([]int{-1}, 61), 0, api.ErrLarge}, {append([]int{5}, make([]int, 60)...), 0, api.ErrLarge}, {make([]int, 10000), 0, api.ErrLarge},
		{[]int{-1}, 0, api.ErrRange}, {[]int{1001}, 0, api.ErrRange}, {[]int{math.MinInt}, 0, api.ErrRange}, {[]int{math.MaxInt}, 0, api.ErrRange},
		{[]int{0, 1001}, 1, api.ErrRange}, {[]int{0, -1}, 1, api.ErrRange}, {[]int{5, 6, -1}, 2, api.ErrRange}, {[]int{5, 6, math.MinInt}, 2, api.ErrRange}, {[]int{5, 1001, 4}, 1, api.ErrRange}, {[]int{5, -1, 4}, 1, api.ErrRange},
		{[]int{1, 0}, 1, api.ErrOrder}, {[]int{5, 5, 4}, 2, api.ErrOrder}, {[]int{1000, 999}, 1, api.ErrOrder}, {[]int{2, 1, 2}, 1, api.ErrOrder}, {[]int{2, 3, 2, 1001}, 2, api.ErrOrder}, {[]int{2, 3, 2, 1}, 2, api.ErrOrder},
		{append(slices.Repeat([]int{9}, 59), 8), 59, api.ErrOrder}, {append(slices.Repeat([]int{9}, 59), 1001), 59, api.ErrRange},
	}
}

// P3.4.
func TestCheckLaw(t *testing.T) {
	for _, c := range badLaws() {
		if i, e := wave.CheckLaw(c.law); i != c.index || e != c.want {
			t.Error(c, i, e)
		}
	}
	for _, law := range [][]int{nil, {}, {0}, {1000}, {0, 0}, {0, 1000}, {5, 5, 6}, make([]int, 60), slices.Repeat([]int{1000}, 60)} {
		if i, e := wave.CheckLaw(law); i != 0 || e != api.OK {
			t.Error(law, i, e)
		}
	}
}

// goodTask is the task of the example.
var goodTask = api.WaveTask{Closed: 4, Most: 7, Ticks: 20, Limits: api.Range{Lo: -2, Hi: 2}}

type badTask struct {
	task api.WaveTask
	want api.Errno
}

// badTasks returns tasks for each error of a task, and for each order of two errors.
func badTasks() []badTask {
	var l []badTask
	add := func(want api.Errno, change func(t *api.WaveTask)) {
		t := goodTask
		change(&t)
		l = append(l, badTask{t, want})
	}
	for _, n := range []int{-1, 6, 1000, math.MinInt, math.MaxInt} {
		add(api.ErrRange, func(t *api.WaveTask) { t.Closed = n })
		add(api.ErrRange, func(t *api.WaveTask) { t.Closed, t.Limits = n, api.Range{Lo: 1} })
	}
	for _, n := range []int{0, -1, 8, 1000, math.MinInt, math.MaxInt} {
		add(api.ErrRange, func(t *api.WaveTask) { t.Most = n })
		add(api.ErrRange, func(t *api.WaveTask) { t.Most, t.Limits = n, api.Range{Lo: 1} })
	}
	for _, n := range badTicks {
		add(api.ErrRange, func(t *api.WaveTask) { t.Ticks = n })
		add(api.ErrRange, func(t *api.WaveTask) { t.Ticks, t.Limits = n, api.Range{Lo: 1} })
	}
	for _, n := range badNumbers {
		add(api.ErrRange, func(t *api.WaveTask) { t.Limits.Lo = n })
		add(api.ErrRange, func(t *api.WaveTask) { t.Limits.Hi = n })
	}
	add(api.ErrOrder, func(t *api.WaveTask) { t.Limits = api.Range{Lo: 1, Hi: 0} })
	add(api.ErrOrder, func(t *api.WaveTask) { t.Limits = api.Range{Lo: api.MaxWaveSize, Hi: -api.MaxWaveSize} })
	return l
}

// badTicks is numbers of ticks for which no run is observed.
var badTicks = []int{0, -1, 201, 1000, math.MinInt, math.MaxInt}

// P3.4.
func TestBadLawsAndTicks(t *testing.T) {
	x := parsed(t, "2x3")
	check := func(law []int, ticks int, want api.Errno) {
		t.Helper()
		if l, e := wave.ValvePressures(x, law, ticks); len(l) > 0 || e != want {
			t.Error(law, ticks, l, e)
		}
		if p, e := wave.HighestOf(x, law, ticks); p != (api.WavePeak{}) || e != want {
			t.Error(law, ticks, p, e)
		}
		if p, e := wave.LowestOf(x, law, ticks); p != (api.WavePeak{}) || e != want {
			t.Error(law, ticks, p, e)
		}
	}
	for _, c := range badLaws() {
		check(c.law, 9, c.want)
		for _, ticks := range badTicks {
			check(c.law, ticks, c.want)
		}
		for _, d := range append(badTasks(), badTask{task: goodTask}) {
			if n, e := wave.FirstBeyond(x, c.law, d.task); n != 0 || e != c.want {
				t.Error(c, d, n, e)
			}
		}
	}
	for _, ticks := range badTicks {
		check([]int{5}, ticks, api.ErrRange)
	}
	for _, c := range badTasks() {
		for _, law := range [][]int{nil, {1000}} {
			if n, e := wave.FirstBeyond(x, law, c.task); n != 0 || e != c.want {
				t.Error(c, n, e)
			}
		}
		if l, e := wave.FastestLaw(x, c.task); len(l) > 0 || e != c.want {
			t.Error(c, l, e)
		}
	}
}

// P3.4, with the edge cases: a law of one number closes at the first tick, one without numbers never.
func TestRuns(t *testing.T) {
	for _, c := range []struct {
		line         string
		law          []int
		ticks        int
		pressures    []int
		highest, low api.WavePeak
	}{
		{"2x3", []int{5}, 9, []int{5, 5, 5, 5, -5, -5, -5, -5, 5}, api.WavePeak{Pressure: 5, Cell: 1}, api.WavePeak{Pressure: -5, Tick: 4, Cell: 1}},
		{"2x3", []int{5}, 1, []int{5}, api.WavePeak{Pressure: 5, Cell: 1}, api.WavePeak{}},
		{"2x3", []int{5}, 4, []int{5, 5, 5, 5}, api.WavePeak{Pressure: 5, Cell: 1}, api.WavePeak{}},
		{"2x3", []int{0, 5}, 5, []int{0, 5, 5, 5, 5}, api.WavePeak{Pressure: 5, Tick: 1, Cell: 1}, api.WavePeak{}},
		{"2x3", nil, 3, []int{0, 0, 0}, api.WavePeak{}, api.WavePeak{}},
		{"2x3", []int{}, 200, make([]int, 200), api.WavePeak{}, api.WavePeak{}},
		{"2x3", []int{0}, 3, []int{0, 0, 0}, api.WavePeak{}, api.WavePeak{}},
		{"2x3", []int{1, 1, 1, 1, 4}, 13, []int{1, 1, 1, 1, 2, 2, 2, 2, -2, -2, -2, -2, 2}, api.WavePeak{Pressure: 2, Tick: 4, Cell: 1}, api.WavePeak{Pressure: -2, Tick: 8, Cell: 1}},
		{"1x1", []int{1, 2, 3}, 5, []int{1, 2, 1, -1, -1}, api.WavePeak{Pressure: 1}, api.WavePeak{Pressure: -1, Tick: 3}}, // the valve has more than its cell
		{"1x1", []int{1000}, 6, []int{1000, 1000, -1000, -1000, 1000, 1000}, api.WavePeak{Pressure: 1000}, api.WavePeak{Pressure: -1000, Tick: 2}},
		{"1x1 20 1x1", []int{0, 9}, 4, []int{0, 9, 9, -9}, api.WavePeak{Pressure: 9, Tick: 1, Cell: 1}, api.WavePeak{Pressure: -9, Tick: 3, Cell: 1}},
	} {
		x := parsed(t, c.line)
		if l, e := wave.ValvePressures(x, c.law, c.ticks); !slices.Equal(l, c.pressures) || e != api.OK {
			t.Error(c, l, e)
		}
		if p, e := wave.HighestOf(x, c.law, c.ticks); p != c.highest || e != api.OK {
			t.Error(c, p, e)
		}
		if p, e := wave.LowestOf(x, c.law, c.ticks); p != c.low || e != api.OK {
			t.Error(c, p, e)
		}
	}
}

// P3.4.
func TestRunsAgainstModel(t *testing.T) {
	r := random(7)
	for i := range 1000 {
		x := randomLine(r, api.MaxWaveAdmittance, api.MaxWaveArea)
		law := randomLaw(r, r.IntN(api.MaxWaveLaw+1), []int{1, 5, api.MaxWaveClosed}[i%3])
		ticks := between(r, 1, api.MaxWaveTicks)
		_, pressures := modelRun(x, law, ticks)
		if l, e := wave.ValvePressures(x, law, ticks); !slices.Equal(l, pressures) || e != api.OK {
			t.Fatal(x, law, ticks, l, e)
		}
		if p, e := wave.HighestOf(x, law, ticks); p != modelExtreme(x, law, ticks, 1) || e != api.OK {
			t.Fatal(x, law, ticks, p, e)
		}
		if p, e := wave.LowestOf(x, law, ticks); p != modelExtreme(x, law, ticks, -1) || e != api.OK {
			t.Fatal(x, law, ticks, p, e)
		}
		lo, hi := between(r, -10, 10), between(r, -10, 10)
		task := api.WaveTask{Closed: r.IntN(6), Most: between(r, 1, 7), Ticks: ticks, Limits: api.Range{Lo: min(lo, hi), Hi: max(lo, hi)}}
		want, wantError := modelBeyond(x, law, task), api.OK
		if want < 0 {
			want, wantError = 0, api.ErrNone
		}
		if n, e := wave.FirstBeyond(x, law, task); n != want || e != wantError {
			t.Fatal(x, law, task, n, e)
		}
	}
}

func taskOf(closed, most, ticks, lo, hi int) api.WaveTask {
	return api.WaveTask{Closed: closed, Most: most, Ticks: ticks, Limits: api.Range{Lo: lo, Hi: hi}}
}

// P3.4.
func TestFirstBeyond(t *testing.T) {
	for _, c := range []struct {
		law  []int
		task api.WaveTask
		tick int
		want api.Errno
	}{
		{[]int{5}, taskOf(0, 1, 9, -5, 5), 0, api.ErrNone}, {[]int{5}, taskOf(0, 1, 9, -5, 4), 0, api.OK}, {[]int{5}, taskOf(0, 1, 9, -4, 5), 4, api.OK}, {[]int{5}, taskOf(0, 1, 4, -4, 5), 0, api.ErrNone}, {[]int{5}, taskOf(0, 1, 5, -4, 5), 4, api.OK},
		{[]int{1, 1, 1, 1, 4}, goodTask, 0, api.ErrNone}, {[]int{0, 1, 1, 1, 4}, goodTask, 4, api.OK}, {nil, goodTask, 0, api.ErrNone}, {nil, taskOf(5, 7, 200, 1, 2), 0, api.OK}, {nil, taskOf(5, 7, 200, -2, -1), 0, api.OK},
		{[]int{0, 0, 0, 7}, taskOf(5, 7, 200, 0, 6), 3, api.OK}, {[]int{1000}, taskOf(5, 7, 200, -api.MaxWaveSize, api.MaxWaveSize), 0, api.ErrNone}, {[]int{1000}, taskOf(0, 1, 1, 1000, 1000), 0, api.ErrNone},
	} {
		if n, e := wave.FirstBeyond(parsed(t, "2x3"), c.law, c.task); n != c.tick || e != c.want {
			t.Error(c, n, e)
		}
	}
}

// P3.4, with the edge case Closed 0.
func TestFastestLaw(t *testing.T) {
	for _, c := range []struct {
		line string
		task api.WaveTask
		law  []int
		want api.Errno
	}{
		{"2x3", goodTask, []int{1, 1, 1, 1, 4}, api.OK}, {"2x3", taskOf(4, 5, 20, -2, 2), []int{1, 1, 1, 1, 4}, api.OK}, {"2x3", taskOf(4, 4, 20, -2, 2), nil, api.ErrNone},
		{"2x3", taskOf(5, 7, 20, -5, 5), []int{5}, api.OK}, {"2x3", taskOf(5, 7, 4, 0, 5), []int{5}, api.OK}, {"2x3", taskOf(5, 7, 5, 0, 5), []int{0, 5}, api.OK}, {"2x3", taskOf(5, 1, 5, 0, 5), nil, api.ErrNone},
		{"2x3", taskOf(0, 7, 200, 0, 0), []int{0}, api.OK}, {"2x3", taskOf(0, 1, 1, -1000000, 1000000), []int{0}, api.OK}, {"2x3", taskOf(0, 7, 200, 1, 2), nil, api.ErrNone}, {"2x3", taskOf(0, 7, 1, -2, -1), nil, api.ErrNone},
		{"2x3", taskOf(5, 7, 1, 0, 0), []int{0, 5}, api.OK}, {"2x3", taskOf(5, 7, 1, 1, 4), []int{1, 5}, api.OK}, {"2x3", taskOf(5, 7, 4, 0, 4), []int{0, 0, 0, 0, 5}, api.OK},
		{"6x1", taskOf(1, 7, 6, 0, 0), []int{0, 0, 0, 0, 0, 0, 1}, api.OK}, {"6x1", taskOf(1, 6, 6, 0, 0), nil, api.ErrNone}, {"6x1", taskOf(1, 7, 7, 0, 0), nil, api.ErrNone}, {"6x1", taskOf(5, 7, 7, 0, 4), nil, api.ErrNone},
	} {
		if l, e := wave.FastestLaw(parsed(t, c.line), c.task); !slices.Equal(l, c.law) || e != c.want {
			t.Error(c, l, e)
		}
	}
}

// P3.4 and P3.11: the fastest law is found by trying all laws.
func TestFastestLawAgainstAllLaws(t *testing.T) {
	r := random(8)
	lengths := map[int]int{}
	for range 400 {
		x := randomLine(r, 5, 4)
		if r.IntN(2) == 0 {
			x.Pipes, x.Areas = x.Pipes[:1], nil
		}
		closed := r.IntN(6)
		task := taskOf(closed, between(r, 1, 7), between(r, 1, 20), -between(r, 0, 3), between(r, closed/3, closed))
		want := modelFastest(x, task)
		lengths[len(want)]++
		l, e := wave.FastestLaw(x, task)
		if !slices.Equal(l, want) || (e == api.OK) != (want != nil) || e != api.OK && e != api.ErrNone {
			t.Fatal(x, task, l, e, want)
		}
		if e != api.OK {
			continue
		}
		if _, f := wave.CheckLaw(l); f != api.OK || l[len(l)-1] != task.Closed || len(l) > task.Most {
			t.Fatal(x, task, l, f)
		}
		if n, f := wave.FirstBeyond(x, l, task); f != api.ErrNone {
			t.Fatal(x, task, l, n, f)
		}
	}
	if len(lengths) != api.MaxWaveMost+1 {
		t.Error("not all numbers of ticks were tried", lengths)
	}
}

// P3.9: on a plain line the wave of each closing comes back after twice the number of cells, with the opposite sign.
func TestPlainLines(t *testing.T) {
	r := random(9)
	for i := range 1000 {
		x := randomPlain(r)
		law := randomLaw(r, r.IntN(api.MaxWaveLaw+1), []int{5, api.MaxWaveClosed}[i%2])
		ticks := between(r, 1, api.MaxWaveTicks)
		l, e := wave.ValvePressures(x, law, ticks)
		if e != api.OK || len(l) != ticks {
			t.Fatal(x, law, ticks, l, e)
		}
		for tick, p := range l {
			closing := modelClosing(law, tick)
			want, sign := closing, -2
			for back := tick - 2*cellsOf(x); back >= 0; back -= 2 * cellsOf(x) {
				want += sign * modelClosing(law, back)
				sign = -sign
			}
			if p != want || max(p, -p) > closing || tick < 2*cellsOf(x) && p != closing {
				t.Fatal(x, law, tick, p, want)
			}
		}
	}
}
