package surge

import (
	"iter"
	"slices"

	"guidevane/api"
)

// maxStates is how many states a box may have that is searched for one that no other box has.
const maxStates = 4000

// CoverOf returns the cover of a box of starts.
func CoverOf(r api.SurgeRules, x api.SurgeCover) ([]api.SurgeBox, api.Errno) {
	if e := first(CheckRules(r), checkCover(x)); e != api.OK {
		return nil, e
	}
	return coverOf(x), api.OK
}

// BoundOf returns the bound of boxes.
func BoundOf(r api.SurgeRules, p api.SurgePlan, boxes []api.SurgeBox) (api.Range, api.Errno) {
	q, e := planOf(r, p)
	if e := first(e, checkBoxes(boxes)); e != api.OK {
		return api.Range{}, e
	}
	var bound api.Range
	found := false
	for levels := range q.levels(boxes) {
		if !found {
			bound, found = levels, true
		}
		bound = api.Range{Lo: min(bound.Lo, levels.Lo), Hi: max(bound.Hi, levels.Hi)}
	}
	return bound, unless(found, api.ErrNone)
}

// CoversAll returns the first state of a box that lies in none of some boxes.
func CoversAll(r api.SurgeRules, b api.SurgeBox, boxes []api.SurgeBox) (api.SurgeState, api.Errno) {
	e := first(CheckRules(r), checkBox(b), checkBoxes(boxes), unless(numbersOf(b.Levels)*numbersOf(b.Flows) <= maxStates, api.ErrLarge))
	if e != api.OK {
		return api.SurgeState{}, e
	}
	for s := range statesOf(b) {
		if !slices.ContainsFunc(boxes, func(other api.SurgeBox) bool { return lies(s, other) }) {
			return s, api.ErrGap
		}
	}
	return api.SurgeState{}, api.OK
}

// ShortestWait returns the minimum wait with which the bound of a cover lies in its limits.
func ShortestWait(r api.SurgeRules, p api.SurgePlan, x api.SurgeCover) (int, api.Errno) {
	q, e := planOf(r, p)
	if e := first(e, checkCover(x)); e != api.OK {
		return 0, e
	}
	boxes := coverOf(x)
	for more := range api.MaxSurgeWait {
		q.Wait = 1 + more
		if q.keeps(boxes, x.Limits) {
			return q.Wait, api.OK
		}
	}
	return 0, api.ErrNone
}

func checkBoxes(boxes []api.SurgeBox) api.Errno {
	if len(boxes) == 0 {
		return api.ErrShape
	}
	return checkList(boxes, api.MaxSurgeBoxes, checkBox)
}

func checkCover(x api.SurgeCover) api.Errno {
	return first(
		checkBox(x.Starts),
		checkWithin(x.Parts, 1, api.MaxSurgeParts),
		checkRange(x.Limits, checkLevel))
}

func coverOf(x api.SurgeCover) []api.SurgeBox {
	var boxes []api.SurgeBox
	for levels := range partsOf(x.Starts.Levels, x.Parts) {
		for flows := range partsOf(x.Starts.Flows, x.Parts) {
			boxes = append(boxes, api.SurgeBox{Levels: levels, Flows: flows})
		}
	}
	return boxes
}

// partsOf ranges over the parts of a range that have numbers.
func partsOf(r api.Range, parts int) iter.Seq[api.Range] {
	return func(yield func(api.Range) bool) {
		n := numbersOf(r)
		for i := range parts {
			part := api.Range{Lo: r.Lo + i*n/parts, Hi: r.Lo + (i+1)*n/parts - 1}
			if part.Lo <= part.Hi && !yield(part) {
				return
			}
		}
	}
}

func numbersOf(r api.Range) int {
	return r.Hi - r.Lo + 1
}

// statesOf ranges over the states of a box, by their levels, then by their flows.
func statesOf(b api.SurgeBox) iter.Seq[api.SurgeState] {
	return func(yield func(api.SurgeState) bool) {
		for i := range numbersOf(b.Levels) {
			for j := range numbersOf(b.Flows) {
				if !yield(api.SurgeState{Level: b.Levels.Lo + i, Flow: b.Flows.Lo + j}) {
					return
				}
			}
		}
	}
}

func lies(s api.SurgeState, b api.SurgeBox) bool {
	return within(s.Level, b.Levels.Lo, b.Levels.Hi) && within(s.Flow, b.Flows.Lo, b.Flows.Hi)
}

// levels ranges over the levels of all boxes after all steps, with the loads of all permitted orders.
func (p plan) levels(boxes []api.SurgeBox) iter.Seq[api.Range] {
	return func(yield func(api.Range) bool) {
		for order := range p.orders() {
			loads := p.loads(order)
			for _, b := range boxes {
				for after := range p.boxRun(b, loads) {
					if !yield(after.Levels) {
						return
					}
				}
			}
		}
	}
}

// keeps tells whether an order is permitted, and all levels of boxes lie in limits. It ends at the first one that does not.
func (p plan) keeps(boxes []api.SurgeBox, limits api.Range) bool {
	found := false
	for levels := range p.levels(boxes) {
		if levels.Lo < limits.Lo || levels.Hi > limits.Hi {
			return false
		}
		found = true
	}
	return found
}
