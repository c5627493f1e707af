package lake

import (
	"slices"

	"guidevane/api"
)

// kinds is the number of kinds of limits.
const kinds = api.LakeRises + 1

// levels is those of the upper and of the lower lake, exactly.
type levels [2]mixed

// watch is the beginning of a run, and the limits of its lakes that were checked.
type watch struct {
	scene
	limits [2]api.LakeLimit
}

// CheckLimits returns the error of a pair, or that of the limits of its lakes.
func CheckLimits(p api.LakePair, l api.LakeLimits) api.Errno {
	c, e := pairOf(p)
	if e != api.OK {
		return e
	}
	return c.checkLimits(l.Upper, l.Lower)
}

// ViolationOf returns the first violation of limits.
func ViolationOf(p api.LakePair, s api.LakeState, x api.LakeTask) (api.LakeViolation, api.Errno) {
	w, e := watchOf(p, s, x)
	if e != api.OK {
		return api.LakeViolation{}, e
	}
	_, v, e := w.end(x.Flows)
	return v, e
}

// PermittedFor returns for how many ticks the last flows are permitted.
func PermittedFor(p api.LakePair, s api.LakeState, x api.LakeTask) (int, api.Errno) {
	w, e := watchOf(p, s, x)
	if e != api.OK {
		return 0, e
	}
	n := len(x.Flows)
	if n == 0 {
		return 0, api.ErrShape
	}
	ticks, _, _ := w.end(slices.Repeat(x.Flows[n-1:], api.MaxLakeTicks))
	return ticks, api.OK
}

// checkLimits returns the error of the limits of the lakes, the upper one first.
func (p pair) checkLimits(l ...api.LakeLimit) api.Errno {
	_, e := firstItem(len(l), func(i int) api.Errno { return p.lakes[i].checkLimit(l[i]) })
	return e
}

func (t table) checkLimit(l api.LakeLimit) api.Errno {
	return first(
		when(!t.hasLevel(l.Levels.Lo) || !t.hasLevel(l.Levels.Hi), api.ErrRange),
		when(!within(l.Fall, 0, api.MaxLakeLevel) || !within(l.Rise, 0, api.MaxLakeLevel), api.ErrRange),
		when(!within(l.Window, 1, api.MaxLakeTicks), api.ErrRange),
		when(l.Levels.Lo > l.Levels.Hi, api.ErrOrder))
}

// watchOf checks a pair, a state and a task.
func watchOf(p api.LakePair, s api.LakeState, x api.LakeTask) (watch, api.Errno) {
	c, e := sceneOf(p, s)
	if e != api.OK {
		return watch{}, e
	}
	w := watch{scene: c, limits: [2]api.LakeLimit{x.Limits.Upper, x.Limits.Lower}}
	e = first(
		func() api.Errno { return w.checkLimits(w.limits[:]...) },
		func() api.Errno { return checkRun(x.Flows) })
	return w, e
}

func (p pair) levelsAt(v volumes) levels {
	var l levels
	for i, t := range p.lakes {
		l[i] = t.level(v[i])
	}
	return l
}

// end returns after how many ticks a run ends, and its first violation, or ErrBreak if a step is impossible, or ErrNone if all of it is permitted.
func (w watch) end(l []api.LakeFlows) (int, api.LakeViolation, api.Errno) {
	past := []levels{w.levelsAt(w.start)}
	for d, e := range w.ticks(l) {
		permitted := len(past) - 1
		if e != api.OK {
			return permitted, api.LakeViolation{}, e
		}
		past = append(past, w.levelsAt(d.after))
		if v, found := w.violation(past); found {
			return permitted, v, api.OK
		}
	}
	return len(l), api.LakeViolation{}, api.ErrNone
}

// violation returns the first violation at the last tick of levels that are known from the tick 0 on.
func (w watch) violation(past []levels) (api.LakeViolation, bool) {
	tick := len(past) - 1
	for lake, limit := range w.limits {
		now, before := past[tick][lake], past[max(0, tick-limit.Window)][lake]
		for kind, broken := range violated(limit, now, before) {
			if broken {
				return api.LakeViolation{Tick: tick, Lake: lake, Kind: kind}, true
			}
		}
	}
	return api.LakeViolation{}, false
}

// violated tells of each kind of limits whether it is violated.
func violated(l api.LakeLimit, now, before mixed) [kinds]bool {
	return [kinds]bool{
		api.LakeLow:   whole(l.Levels.Lo).exceeds(now, 0),
		api.LakeHigh:  now.exceeds(whole(l.Levels.Hi), 0),
		api.LakeFalls: before.exceeds(now, l.Fall),
		api.LakeRises: now.exceeds(before, l.Rise),
	}
}
