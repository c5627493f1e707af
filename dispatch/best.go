package dispatch

import "guidevane/api"

// volumeSet says of each volume, from the lowest one on, whether it is in a set.
type volumeSet [api.MaxDispatchSpan]bool

// BestPlan returns the best plan and its value.
func BestPlan(p api.DispatchPlant, t api.DispatchTask) ([]int, int, api.Errno) {
	checked, e := taskOf(p, t)
	if e != api.OK {
		return nil, 0, e
	}
	return checked.best(anywhere)
}

// ReachableAt returns all volumes that are reachable at a time.
func ReachableAt(p api.DispatchPlant, t api.DispatchTask, hour int) ([]int, api.Errno) {
	checked, e := taskOf(p, t)
	if e := first(e, checkWithin(0, len(t.Hours), hour)); e != api.OK {
		return nil, e
	}
	potentials := checked.potentials(anywhere)[hour]
	var reachable []int
	for i, isReached := range checked.reached(hour) {
		volume := p.Lo + i
		if isReached && !isLost(potentials[checked.cell(volume, t.Mode)]) {
			reachable = append(reachable, volume)
		}
	}
	return reachable, api.OK
}

// best returns the best one of the plans whose volumes before all hours are allowed, and its value.
func (t task) best(allowed func(hour, volume int) bool) ([]int, int, api.Errno) {
	potentials := t.potentials(allowed)
	value := t.bound(potentials)
	if isLost(value) {
		return nil, 0, api.ErrNone
	}
	var modes []int
	at := choice{mode: t.Mode, volume: t.Volume}
	for hour := range t.Hours {
		at = t.bestChoice(hour, at.volume, at.mode, potentials[hour+1])
		modes = append(modes, at.mode)
	}
	return modes, value, api.OK
}

// reached returns the volumes that plans have after so many hours, whether they are possible in the hours that follow or not.
func (t task) reached(hours int) volumeSet {
	var reached volumeSet
	reached[t.Volume-t.Lo] = true
	for hour := range hours {
		var next volumeSet
		for i, isReached := range reached {
			if !isReached {
				continue
			}
			for _, after := range t.possible(hour, t.Lo+i) {
				next[after-t.Lo] = true
			}
		}
		reached = next
	}
	return reached
}
