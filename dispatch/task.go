package dispatch

import (
	"iter"

	"guidevane/api"
)

// plant is a plant that was checked.
type plant struct{ api.DispatchPlant }

// task is a task that was checked, with its plant.
type task struct {
	plant
	api.DispatchTask
}

// CheckPlant returns the error of a plant, with the index of the mode.
func CheckPlant(p api.DispatchPlant) (int, api.Errno) {
	if e := first(
		checkWithin(0, api.MaxDispatchVolume, p.Lo, p.Hi),
		unless(p.Lo <= p.Hi, api.ErrOrder),
		unless(p.Hi-p.Lo < api.MaxDispatchSpan, api.ErrLarge),
		checkCount(len(p.Modes), api.MaxDispatchModes)); e != api.OK {
		return 0, e
	}
	checkName := newNames()
	return firstItem(p.Modes, func(m api.DispatchMode) api.Errno {
		return first(
			checkName(m.Name),
			checkSizes(api.MaxDispatchEnergy, m.Change, m.Energy),
			checkWithin(0, api.MaxDispatchPrice, m.Start))
	})
}

// CheckTask returns the error of a task, with the index of the hour.
func CheckTask(p api.DispatchPlant, t api.DispatchTask) (int, api.Errno) {
	_, e := CheckPlant(p)
	if e := first(
		e,
		checkWithin(p.Lo, p.Hi, t.Volume),
		checkIndex(t.Mode, len(p.Modes)),
		checkSizes(api.MaxDispatchPrice, t.Worth),
		checkCount(len(t.Hours), api.MaxDispatchHours)); e != api.OK {
		return 0, e
	}
	return firstItem(t.Hours, func(h api.DispatchHour) api.Errno {
		return first(
			checkSizes(api.MaxDispatchPrice, h.Buy, h.Sell, h.Inflow),
			unless(h.Sell <= h.Buy, api.ErrOrder))
	})
}

// taskOf checks a plant, and then a task of it.
func taskOf(p api.DispatchPlant, t api.DispatchTask) (task, api.Errno) {
	if _, e := CheckTask(p, t); e != api.OK {
		return task{}, e
	}
	return task{plant{p}, t}, api.OK
}

// isWithin returns whether the upper lake may have a volume.
func (p plant) isWithin(volume int) bool {
	return p.Lo <= volume && volume <= p.Hi
}

// after returns the volume after an hour in a mode, from that before it.
func (t task) after(hour, volume, mode int) int {
	return volume + t.Hours[hour].Inflow + t.Modes[mode].Change
}

// possible ranges over the modes in which an hour can be spent from a volume on, and the volumes after it.
func (t task) possible(hour, volume int) iter.Seq2[int, int] {
	return func(yield func(mode, after int) bool) {
		for mode := range t.Modes {
			after := t.after(hour, volume, mode)
			if t.isWithin(after) && !yield(mode, after) {
				return
			}
		}
	}
}

// revenue returns the revenue of an hour in a mode, after one in the mode before.
func (t task) revenue(hour, before, mode int) int {
	m, prices := t.Modes[mode], t.Hours[hour]
	revenue := m.Energy * prices.Buy
	if m.Energy > 0 {
		revenue = m.Energy * prices.Sell
	}
	if mode != before {
		revenue -= m.Start
	}
	return revenue
}
