package surge

import (
	"iter"
	"slices"

	"guidevane/api"
)

// Stepped returns the state after a step.
func Stepped(r api.SurgeRules, s api.SurgeState, x api.SurgeStep) (api.SurgeState, api.Errno) {
	c, e := chamberOf(r)
	if e := first(e, checkState(s), checkLoad(x.Load), c.checkOwn(x.Friction)); e != api.OK {
		return api.SurgeState{}, e
	}
	return c.stepped(s, x.Load, x.Friction), api.OK
}

// RunOf returns the states after all steps of a run.
func RunOf(r api.SurgeRules, s api.SurgeState, x api.SurgeRun) ([]api.SurgeState, api.Errno) {
	c, e := chamberOf(r)
	if e := first(e, checkState(s), checkLoads(x.Loads), c.checkOwn(x.Friction)); e != api.OK {
		return nil, e
	}
	return slices.Collect(c.run(s, x)), api.OK
}

// BoxStep returns the step of a box.
func BoxStep(r api.SurgeRules, b api.SurgeBox, load int) (api.SurgeBox, api.Errno) {
	c, e := chamberOf(r)
	if e := first(e, checkBox(b), checkLoad(load)); e != api.OK {
		return api.SurgeBox{}, e
	}
	return c.boxStep(b, load), api.OK
}

// BoxRun returns the boxes after all steps.
func BoxRun(r api.SurgeRules, b api.SurgeBox, loads []int) ([]api.SurgeBox, api.Errno) {
	c, e := chamberOf(r)
	if e := first(e, checkBox(b), checkLoads(loads)); e != api.OK {
		return nil, e
	}
	return slices.Collect(c.boxRun(b, loads)), api.OK
}

// run ranges over the states after the steps of a run.
func (c chamber) run(s api.SurgeState, x api.SurgeRun) iter.Seq[api.SurgeState] {
	return steps(s, x.Loads, func(s api.SurgeState, load int) api.SurgeState { return c.stepped(s, load, x.Friction) })
}

// boxRun ranges over the boxes after the steps with loads.
func (c chamber) boxRun(b api.SurgeBox, loads []int) iter.Seq[api.SurgeBox] {
	return steps(b, loads, c.boxStep)
}

// steps ranges over what becomes of a state or of a box after each load.
func steps[T any](begin T, loads []int, step func(now T, load int) T) iter.Seq[T] {
	return func(yield func(T) bool) {
		now := begin
		for _, load := range loads {
			now = step(now, load)
			if !yield(now) {
				return
			}
		}
	}
}

func (c chamber) stepped(s api.SurgeState, load, friction int) api.SurgeState {
	head := s.Level + lossOf(friction, s.Flow) + lossOf(c.Throttle, s.Flow-load)
	flow := s.Flow - floored(head, c.Inertia)
	flow = min(max(flow, -api.MaxSurgeFlow), api.MaxSurgeFlow)
	return api.SurgeState{Level: s.Level + floored(flow-load, c.Area), Flow: flow}
}

// boxStep returns the step of a box. As a level never falls for a greater level or flow, and a flow never for a greater flow or a smaller level, the corners of the box decide.
func (c chamber) boxStep(b api.SurgeBox, load int) api.SurgeBox {
	low := c.atEnds(b.Levels.Lo, b.Flows.Lo, load)
	high := c.atEnds(b.Levels.Hi, b.Flows.Hi, load)
	slow := c.atEnds(b.Levels.Hi, b.Flows.Lo, load)
	fast := c.atEnds(b.Levels.Lo, b.Flows.Hi, load)
	return api.SurgeBox{
		Levels: api.Range{Lo: min(low[0].Level, low[1].Level), Hi: max(high[0].Level, high[1].Level)},
		Flows:  api.Range{Lo: min(slow[0].Flow, slow[1].Flow), Hi: max(fast[0].Flow, fast[1].Flow)},
	}
}

// atEnds returns the states after a step, for both ends of the range of frictions.
func (c chamber) atEnds(level, flow, load int) [2]api.SurgeState {
	var after [2]api.SurgeState
	for i, friction := range c.ends {
		after[i] = c.stepped(api.SurgeState{Level: level, Flow: flow}, load, friction)
	}
	return after
}

// lossOf returns the head that a flow loses by friction, rounded towards 0.
func lossOf(friction, flow int) int {
	return friction * flow * max(flow, -flow) / 1000
}

// floored divides by a positive number, and rounds down.
func floored(num, den int) int {
	quotient := num / den
	if num%den < 0 {
		quotient--
	}
	return quotient
}
