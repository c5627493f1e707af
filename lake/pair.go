package lake

import (
	"iter"

	"guidevane/api"
)

// thousandths is how many of them, in which rates are, make a millimetre.
const thousandths = 1000

// volumes is those of the upper and of the lower lake.
type volumes [2]int

// pair is a pair that was checked.
type pair struct {
	lakes [2]table
	rate  int
}

// scene is a pair, and a state of it that was checked.
type scene struct {
	pair
	start volumes
}

// change is the volumes after a step, and what it lost.
type change struct {
	after volumes
	loss  api.LakeLoss
}

// CheckPair returns the error of a pair.
func CheckPair(p api.LakePair) api.Errno {
	_, e := pairOf(p)
	return e
}

// CheckState returns the error of a pair, or that of a state of it.
func CheckState(p api.LakePair, s api.LakeState) api.Errno {
	_, e := sceneOf(p, s)
	return e
}

// Usable returns the usable volumes of a state.
func Usable(p api.LakePair, s api.LakeState) (api.LakeState, api.Errno) {
	c, e := sceneOf(p, s)
	if e != api.OK {
		return api.LakeState{}, e
	}
	var usable volumes
	for i, from := range c.lakes {
		to := 1 - i
		room := c.lakes[to].top().Volume - c.start[to]
		usable[i] = min(c.start[i]-from.bottom().Volume, room)
	}
	return usable.state(), api.OK
}

// Step returns the state after a step, and what was lost.
func Step(p api.LakePair, s api.LakeState, x api.LakeFlows) (api.LakeState, api.LakeLoss, api.Errno) {
	c, e := sceneOf(p, s)
	if e != api.OK {
		return api.LakeState{}, api.LakeLoss{}, e
	}
	if e := checkFlows(x); e != api.OK {
		return api.LakeState{}, api.LakeLoss{}, e
	}
	d, e := c.step(c.start, x)
	return d.after.state(), d.loss, e
}

// RunOf returns the states after each tick, and all that was lost.
func RunOf(p api.LakePair, s api.LakeState, l []api.LakeFlows) ([]api.LakeState, api.LakeLoss, api.Errno) {
	c, e := sceneOf(p, s)
	if e != api.OK {
		return nil, api.LakeLoss{}, e
	}
	if e := checkRun(l); e != api.OK {
		return nil, api.LakeLoss{}, e
	}
	var states []api.LakeState
	var loss api.LakeLoss
	for d, e := range c.ticks(l) {
		if e != api.OK {
			return nil, api.LakeLoss{}, e
		}
		states = append(states, d.after.state())
		loss.Evaporated += d.loss.Evaporated
		loss.Spilled += d.loss.Spilled
	}
	return states, loss, api.OK
}

// pairOf checks a pair.
func pairOf(p api.LakePair) (pair, api.Errno) {
	given := [2]api.LakeTable{p.Upper, p.Lower}
	c := pair{rate: p.Rate}
	e := first(
		each(len(given), func(i int) api.Errno {
			t, e := tableOf(given[i])
			c.lakes[i] = t
			return e
		}),
		when(!within(p.Rate, 0, api.MaxLakeRate), api.ErrRange))
	return c, e
}

// sceneOf checks a pair and a state of it.
func sceneOf(p api.LakePair, s api.LakeState) (scene, api.Errno) {
	c, e := pairOf(p)
	if e != api.OK {
		return scene{}, e
	}
	v := volumes{s.Upper, s.Lower}
	_, e = firstItem(len(v), func(i int) api.Errno {
		if !c.lakes[i].hasVolume(v[i]) {
			return api.ErrRange
		}
		return api.OK
	})
	return scene{pair: c, start: v}, e
}

// checkFlows returns the error of the flows of one tick.
func checkFlows(x api.LakeFlows) api.Errno {
	if !within(x.InUpper, 0, api.MaxLakeFlow) || !within(x.InLower, 0, api.MaxLakeFlow) || !within(x.Exchange, -api.MaxLakeFlow, api.MaxLakeFlow) {
		return api.ErrRange
	}
	return api.OK
}

// checkRun returns the error of the flows of a run.
func checkRun(l []api.LakeFlows) api.Errno {
	return first(
		when(len(l) > api.MaxLakeTicks, api.ErrLarge),
		each(len(l), func(i int) api.Errno { return checkFlows(l[i]) }))
}

func (v volumes) state() api.LakeState {
	return api.LakeState{Upper: v[0], Lower: v[1]}
}

// evaporating returns how much evaporates in a tick.
func (t table) evaporating(volume, rate int) int {
	p := t.pieceAt(volume)
	return min(rate*p.volume()/(p.height()*thousandths), volume-t.bottom().Volume)
}

// step returns what follows from the flows of a tick, or ErrBreak if they are impossible.
func (p pair) step(v volumes, x api.LakeFlows) (change, api.Errno) {
	in := [2]int{x.InUpper + x.Exchange, x.InLower - x.Exchange}
	var c change
	for i, t := range p.lakes {
		evaporated := t.evaporating(v[i], p.rate)
		volume := v[i] - evaporated + in[i]
		if volume < t.bottom().Volume {
			return change{}, api.ErrBreak
		}
		c.after[i] = min(volume, t.top().Volume)
		c.loss.Evaporated += evaporated
		c.loss.Spilled += volume - c.after[i]
	}
	return c, api.OK
}

// ticks ranges over the steps of a run. A step that is impossible is the last one, and has an error.
func (c scene) ticks(l []api.LakeFlows) iter.Seq2[change, api.Errno] {
	return func(yield func(change, api.Errno) bool) {
		v := c.start
		for _, x := range l {
			d, e := c.step(v, x)
			if !yield(d, e) || e != api.OK {
				return
			}
			v = d.after
		}
	}
}
