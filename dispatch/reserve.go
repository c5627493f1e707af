package dispatch

import "guidevane/api"

// ReserveOf returns for each hour of a plan for how many hours a reserve can be given from there.
func ReserveOf(p api.DispatchPlant, t api.DispatchTask, r api.DispatchReserve) ([]int, api.Errno) {
	checked, e := planOf(p, t, r.Plan)
	if e := first(e, checkIndex(r.Mode, len(p.Modes))); e != api.OK {
		return nil, e
	}
	volumes := checked.volumes()
	var given []int
	for hour := range t.Hours {
		given = append(given, checked.given(hour, volumes[hour], r.Mode))
	}
	return given, api.OK
}

// PromisedIn returns what is promised of a reserve by a plan.
func PromisedIn(p api.DispatchPlant, t api.DispatchTask, r api.DispatchReserve) (int, api.Errno) {
	given, e := ReserveOf(p, t, r)
	if e != api.OK {
		return 0, e
	}
	promised := api.MaxDispatchHours
	for hour, hours := range given {
		if hour+hours < len(given) {
			promised = min(promised, hours)
		}
	}
	return promised, api.OK
}

// BestWith returns the best one of the plans that hold a reserve, and its value.
func BestWith(p api.DispatchPlant, t api.DispatchTask, r api.DispatchHold) ([]int, int, api.Errno) {
	checked, e := taskOf(p, t)
	if e := first(
		e,
		checkIndex(r.Mode, len(p.Modes)),
		checkWithin(0, api.MaxDispatchHours, r.Hours)); e != api.OK {
		return nil, 0, e
	}
	return checked.best(func(hour, volume int) bool {
		return checked.given(hour, volume, r.Mode) >= min(r.Hours, len(t.Hours)-hour)
	})
}

// given returns for how many hours a mode can be given from an hour on, with the volume before it.
func (t task) given(hour, volume, mode int) int {
	for later := hour; later < len(t.Hours); later++ {
		volume = t.after(later, volume, mode)
		if !t.isWithin(volume) {
			return later - hour
		}
	}
	return len(t.Hours) - hour
}
