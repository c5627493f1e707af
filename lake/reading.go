package lake

import "guidevane/api"

// AgreedOf returns the agreed range of readings.
func AgreedOf(t api.LakeTable, net []int, l []api.LakeReading) (api.Range, api.Errno) {
	permitted, e := permittedBy(t, net, l)
	if e != api.OK {
		return api.Range{}, e
	}
	agreed := common(permitted...)
	if isEmpty(agreed) {
		return api.Range{}, api.ErrClash
	}
	return agreed, api.OK
}

// Contradicting returns the minimum set of readings that contradict each other. Ranges of which each two meet have a number in common, so that no set needs three of them.
func Contradicting(t api.LakeTable, net []int, l []api.LakeReading) ([]int, api.Errno) {
	permitted, e := permittedBy(t, net, l)
	if e != api.OK {
		return nil, e
	}
	for i, r := range permitted {
		if isEmpty(r) {
			return []int{i}, api.OK
		}
	}
	for i, r := range permitted {
		for j := i + 1; j < len(permitted); j++ {
			if isEmpty(common(r, permitted[j])) {
				return []int{i, j}, api.OK
			}
		}
	}
	return nil, api.ErrNone
}

// permittedBy checks readings, and returns the whole volumes at the tick 0 that each of them permits.
func permittedBy(given api.LakeTable, net []int, l []api.LakeReading) ([]api.Range, api.Errno) {
	t, e := tableOf(given)
	if e != api.OK {
		return nil, e
	}
	e = first(
		when(len(net) > api.MaxLakeTicks, api.ErrLarge),
		each(len(net), func(i int) api.Errno { return checkNet(net[i]) }),
		when(len(l) == 0, api.ErrShape),
		when(len(l) > api.MaxLakeReadings, api.ErrLarge),
		each(len(l), func(i int) api.Errno { return t.checkReading(l[i], len(net)) }))
	if e != api.OK {
		return nil, e
	}
	var permitted []api.Range
	for _, r := range l {
		permitted = append(permitted, t.permitted(r, net))
	}
	return permitted, api.OK
}

func checkNet(flow int) api.Errno {
	if !within(flow, -api.MaxLakeFlow, api.MaxLakeFlow) {
		return api.ErrRange
	}
	return api.OK
}

func (t table) checkReading(r api.LakeReading, ticks int) api.Errno {
	return first(
		when(!within(r.Tick, 0, ticks), api.ErrRange),
		when(!t.hasLevel(r.Level.Lo) || !t.hasLevel(r.Level.Hi), api.ErrRange),
		when(r.Level.Lo > r.Level.Hi, api.ErrOrder))
}

// permitted returns the whole volumes at the tick 0 that a reading permits. It is empty if no whole volume has a level that was read.
func (t table) permitted(r api.LakeReading, net []int) api.Range {
	added := 0
	for _, flow := range net[:r.Tick] {
		added += flow
	}
	lo, hi := t.volume(r.Level.Lo), t.volume(r.Level.Hi)
	return api.Range{Lo: lo.up() - added, Hi: hi.whole - added}
}

// common returns what at least one range has in common.
func common(l ...api.Range) api.Range {
	c := l[0]
	for _, r := range l {
		c = api.Range{Lo: max(c.Lo, r.Lo), Hi: min(c.Hi, r.Hi)}
	}
	return c
}

func isEmpty(r api.Range) bool {
	return r.Lo > r.Hi
}
