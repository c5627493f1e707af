package dispatch

import "guidevane/api"

// plan is a possible plan: a task, and the modes of its hours.
type plan struct {
	task
	modes []int
}

// VolumesOf returns the volumes of a plan before the first hour and after each hour.
func VolumesOf(p api.DispatchPlant, t api.DispatchTask, plan []int) ([]int, api.Errno) {
	checked, e := planOf(p, t, plan)
	if e != api.OK {
		return nil, e
	}
	return checked.volumes(), api.OK
}

// ValueOf returns the value of a plan.
func ValueOf(p api.DispatchPlant, t api.DispatchTask, plan []int) (int, api.Errno) {
	checked, e := planOf(p, t, plan)
	if e != api.OK {
		return 0, e
	}
	return checked.value(), api.OK
}

// StartsOf returns the number of hours of a plan with another mode than before.
func StartsOf(p api.DispatchPlant, t api.DispatchTask, plan []int) (int, api.Errno) {
	checked, e := planOf(p, t, plan)
	if e != api.OK {
		return 0, e
	}
	return checked.starts(), api.OK
}

// planOf checks a plant, a task of it, and then a plan of that.
func planOf(p api.DispatchPlant, t api.DispatchTask, modes []int) (plan, api.Errno) {
	checked, e := taskOf(p, t)
	if e == api.OK {
		e = checked.checkPlan(modes)
	}
	if e != api.OK {
		return plan{}, e
	}
	return plan{checked, modes}, api.OK
}

// checkPlan returns the error of a plan with these modes.
func (t task) checkPlan(modes []int) api.Errno {
	_, missing := firstItem(modes, func(mode int) api.Errno { return checkIndex(mode, len(t.Modes)) })
	if e := first(unless(len(modes) == len(t.Hours), api.ErrShape), missing); e != api.OK {
		return e
	}
	_, e := firstItem(plan{t, modes}.volumes(), func(volume int) api.Errno {
		return unless(t.isWithin(volume), api.ErrBreak)
	})
	return e
}

// volumes returns the volumes before the first hour and after each hour. The plan need not be possible.
func (p plan) volumes() []int {
	volumes := []int{p.Volume}
	for hour, mode := range p.modes {
		volumes = append(volumes, p.after(hour, volumes[hour], mode))
	}
	return volumes
}

func (p plan) value() int {
	value, before := 0, p.Mode
	for hour, mode := range p.modes {
		value += p.revenue(hour, before, mode)
		before = mode
	}
	return value + p.Worth*p.volumes()[len(p.modes)]
}

func (p plan) starts() int {
	starts, before := 0, p.Mode
	for _, mode := range p.modes {
		if mode != before {
			starts++
		}
		before = mode
	}
	return starts
}
