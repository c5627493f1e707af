package water

import (
	"sort"

	"guidevane/api"
)

// LossOf returns the loss of a conduit with a flow.
func LossOf(resist, flow int) (int, api.Errno) {
	if e := first(checkResist(resist, 0), checkCirculation(flow)); e != api.OK {
		return 0, e
	}
	return loss(resist, flow), api.OK
}

// FlowThrough returns the flow through a conduit at a drop.
func FlowThrough(resist, drop int) (api.Range, api.Errno) {
	if e := first(checkResist(resist, 1), checkDrop(drop)); e != api.OK {
		return api.Range{}, e
	}
	return flowThrough(resist, drop), api.OK
}

// SerialOf returns the coefficient of conduits in series.
func SerialOf(resists []int) (int, api.Errno) {
	if e := checkResists(resists); e != api.OK {
		return 0, e
	}
	sum := 0
	for _, resist := range resists {
		sum += resist
	}
	return sum, api.OK
}

// ParallelOf returns the flow of parallel conduits at a drop.
func ParallelOf(resists []int, drop int) (api.Range, api.Errno) {
	if e := first(checkResists(resists), checkDrop(drop)); e != api.OK {
		return api.Range{}, e
	}
	return parallel(resists, drop), api.OK
}

// DropFor returns the drop of parallel conduits for a flow.
func DropFor(resists []int, flow int) (api.Range, api.Errno) {
	e := first(checkResists(resists), unless(within(flow, 0, api.MaxWaterDraw), api.ErrRange))
	if e != api.OK {
		return api.Range{}, e
	}
	hi := sort.Search(api.MaxWaterDrop+1, func(drop int) bool { return parallel(resists, drop).Lo >= flow })
	if hi > api.MaxWaterDrop {
		return api.Range{}, api.ErrNone
	}
	lo := sort.Search(hi, func(drop int) bool { return parallel(resists, drop).Hi >= flow })
	return api.Range{Lo: lo, Hi: hi}, api.OK
}

// checkResist returns the error of a coefficient, which is at least lo.
func checkResist(resist, lo int) api.Errno {
	return unless(within(resist, lo, api.MaxWaterResist), api.ErrRange)
}

// checkResists returns the error of the coefficients of conduits in series, or of parallel ones.
func checkResists(resists []int) api.Errno {
	e := first(
		unless(len(resists) > 0, api.ErrShape),
		unless(len(resists) <= api.MaxWaterParallel, api.ErrLarge))
	if e != api.OK {
		return e
	}
	_, e = firstItem(resists, func(resist int) api.Errno { return checkResist(resist, 1) })
	return e
}

func checkDrop(drop int) api.Errno {
	return unless(within(drop, 0, api.MaxWaterDrop), api.ErrRange)
}

func checkCirculation(flow int) api.Errno {
	return unless(within(flow, -api.MaxWaterFlow, api.MaxWaterFlow), api.ErrRange)
}

func loss(resist, flow int) int {
	if flow < 0 {
		return -resist * flow * flow
	}
	return resist * flow * flow
}

// flowThrough looks for whole flows only, as the root itself is in general no whole number. MaxWaterFlow is more than enough for each drop.
func flowThrough(resist, drop int) api.Range {
	return api.Range{
		Lo: sort.Search(api.MaxWaterFlow, func(flow int) bool { return loss(resist, flow+1) > drop }),
		Hi: sort.Search(api.MaxWaterFlow, func(flow int) bool { return loss(resist, flow) >= drop }),
	}
}

func parallel(resists []int, drop int) api.Range {
	var sum api.Range
	for _, resist := range resists {
		flow := flowThrough(resist, drop)
		sum.Lo += flow.Lo
		sum.Hi += flow.Hi
	}
	return sum
}
