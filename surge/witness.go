package surge

import (
	"iter"

	"guidevane/api"
)

// WorstOf returns the worst witness for starts.
func WorstOf(r api.SurgeRules, p api.SurgePlan, starts []api.SurgeState) (api.SurgeWitness, api.Errno) {
	q, e := planOf(r, p)
	if e := first(e, checkStarts(starts)); e != api.OK {
		return api.SurgeWitness{}, e
	}
	var worst api.SurgeWitness
	found := false
	for w := range q.witnesses(starts) {
		if !found || w.Level > worst.Level {
			worst, found = w, true
		}
	}
	return worst, unless(found, api.ErrNone)
}

// CheckWitness returns the error of a witness.
func CheckWitness(r api.SurgeRules, p api.SurgePlan, w api.SurgeWitness) api.Errno {
	q, e := planOf(r, p)
	if e := first(e, q.checkOrder(w.Order), checkState(w.Start), q.checkOwn(w.Friction)); e != api.OK {
		return e
	}
	run := api.SurgeRun{Loads: q.loads(w.Order), Friction: w.Friction}
	return unless(w.Level == q.highest(w.Start, run), api.ErrProof)
}

func checkStarts(starts []api.SurgeState) api.Errno {
	if len(starts) == 0 {
		return api.ErrShape
	}
	return checkList(starts, api.MaxSurgeStarts, checkState)
}

// witnesses ranges over all witnesses for starts, by their orders, then by their starts, then from the lower end on.
func (p plan) witnesses(starts []api.SurgeState) iter.Seq[api.SurgeWitness] {
	return func(yield func(api.SurgeWitness) bool) {
		for order := range p.orders() {
			run := api.SurgeRun{Loads: p.loads(order)}
			for _, start := range starts {
				for _, friction := range p.ends {
					run.Friction = friction
					w := api.SurgeWitness{Order: order, Start: start, Friction: friction, Level: p.highest(start, run)}
					if !yield(w) {
						return
					}
				}
			}
		}
	}
}

// highest returns the highest level of a run, which has at least one step.
func (c chamber) highest(s api.SurgeState, x api.SurgeRun) int {
	level, found := 0, false
	for after := range c.run(s, x) {
		if !found || after.Level > level {
			level, found = after.Level, true
		}
	}
	return level
}
