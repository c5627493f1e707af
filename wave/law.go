package wave

import (
	"iter"
	"slices"

	"guidevane/api"
)

// moment is a tick of a run, the pressure at the valve at it, and the state after it.
type moment struct {
	api.WaveState
	tick, valve int
}

// CheckLaw returns the error of a closing law, and the index of its number.
func CheckLaw(law []int) (int, api.Errno) {
	if len(law) > api.MaxWaveLaw {
		return 0, api.ErrLarge
	}
	before := 0
	return firstItem(len(law), func(i int) api.Errno {
		e := first(checkWithin(law[i], 0, api.MaxWaveClosed), unless(law[i] >= before, api.ErrOrder))
		before = law[i]
		return e
	})
}

// ValvePressures returns the pressures at the valve at the ticks of a run.
func ValvePressures(x api.WaveLine, law []int, ticks int) ([]int, api.Errno) {
	l, e := lineWithLaw(x, law)
	if e := first(e, checkTicks(ticks)); e != api.OK {
		return nil, e
	}
	var pressures []int
	for m := range l.run(law, ticks) {
		pressures = append(pressures, m.valve)
	}
	return pressures, api.OK
}

// HighestOf returns the peak of a run.
func HighestOf(x api.WaveLine, law []int, ticks int) (api.WavePeak, api.Errno) {
	return extremeOf(x, law, ticks, func(pressure, best int) bool { return pressure > best })
}

// LowestOf returns the low of a run.
func LowestOf(x api.WaveLine, law []int, ticks int) (api.WavePeak, api.Errno) {
	return extremeOf(x, law, ticks, func(pressure, best int) bool { return pressure < best })
}

// FirstBeyond returns the first tick at which the pressure at the valve does not lie in the limits of a task.
func FirstBeyond(x api.WaveLine, law []int, t api.WaveTask) (int, api.Errno) {
	l, e := lineWithLaw(x, law)
	if e := first(e, checkTask(t)); e != api.OK {
		return 0, e
	}
	tick, beyond := l.firstBeyond(law, t)
	return tick, unless(beyond, api.ErrNone)
}

// FastestLaw returns the fastest law of a task.
func FastestLaw(x api.WaveLine, t api.WaveTask) ([]int, api.Errno) {
	l, e := lineOf(x)
	if e := first(e, checkTask(t)); e != api.OK {
		return nil, e
	}
	for more := range t.Most {
		for law := range lawsOf(1+more, t.Closed) {
			if _, beyond := l.firstBeyond(law, t); !beyond {
				return law, api.OK
			}
		}
	}
	return nil, api.ErrNone
}

// lineWithLaw checks a line, and a law.
func lineWithLaw(x api.WaveLine, law []int) (line, api.Errno) {
	l, e := lineOf(x)
	_, lawError := CheckLaw(law)
	return l, first(e, lawError)
}

func checkTicks(ticks int) api.Errno {
	return checkWithin(ticks, 1, api.MaxWaveTicks)
}

func checkTask(t api.WaveTask) api.Errno {
	return first(
		checkWithin(t.Closed, 0, api.MaxWaveFastest),
		checkWithin(t.Most, 1, api.MaxWaveMost),
		checkTicks(t.Ticks),
		checkSize(t.Limits.Lo),
		checkSize(t.Limits.Hi),
		unless(t.Limits.Lo <= t.Limits.Hi, api.ErrOrder))
}

// run ranges over the ticks of the run of a law. The states of all of them are in the same memory, so that each is lost with the next tick.
func (l line) run(law []int, ticks int) iter.Seq[moment] {
	return func(yield func(moment) bool) {
		now := l.rest()
		for tick := range ticks {
			valve := l.move(now, closingAt(law, tick))
			if !yield(moment{WaveState: now, tick: tick, valve: valve}) {
				return
			}
		}
	}
}

func closingAt(law []int, tick int) int {
	if len(law) == 0 {
		return 0
	}
	return law[min(tick, len(law)-1)]
}

// extremeOf returns the first pressure of a run than which no other one is better.
func extremeOf(x api.WaveLine, law []int, ticks int, better func(pressure, best int) bool) (api.WavePeak, api.Errno) {
	l, e := lineWithLaw(x, law)
	if e := first(e, checkTicks(ticks)); e != api.OK {
		return api.WavePeak{}, e
	}
	var best api.WavePeak
	found := false
	for m := range l.run(law, ticks) {
		for cell := range l.cells() {
			if p := pressure(m.WaveState, cell); !found || better(p, best.Pressure) {
				best, found = api.WavePeak{Pressure: p, Tick: m.tick, Cell: cell}, true
			}
		}
	}
	return best, api.OK
}

// firstBeyond returns the first tick at which the limits of a task are not kept, and whether there is one.
func (l line) firstBeyond(law []int, t api.WaveTask) (int, bool) {
	for m := range l.run(law, t.Ticks) {
		if m.valve < t.Limits.Lo || m.valve > t.Limits.Hi {
			return m.tick, true
		}
	}
	return 0, false
}

// lawsOf ranges over all laws with so many numbers of which the last one is given, in lexicographic order.
func lawsOf(numbers, closed int) iter.Seq[[]int] {
	return func(yield func([]int) bool) {
		law := make([]int, numbers)
		law[numbers-1] = closed
		for yield(slices.Clone(law)) && advance(law) {
		}
	}
}

// advance makes of a law the next one with the same last number, and tells whether there is one.
func advance(law []int) bool {
	last := len(law) - 1
	i := last
	for i >= 0 && law[i] == law[last] {
		i--
	}
	if i < 0 {
		return false
	}
	more := law[i] + 1
	for ; i < last; i++ {
		law[i] = more
	}
	return true
}
