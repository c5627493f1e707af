package surge

import (
	"iter"
	"slices"

	"guidevane/api"
)

// plan is a plan that was checked, and its chamber.
type plan struct {
	chamber
	api.SurgePlan
}

// CheckPlan returns the error of rules, or that of a plan with the index of the change.
func CheckPlan(r api.SurgeRules, p api.SurgePlan) (int, api.Errno) {
	if e := CheckRules(r); e != api.OK {
		return 0, e
	}
	return checkPlan(p)
}

// OrdersOf returns all permitted orders of a plan.
func OrdersOf(r api.SurgeRules, p api.SurgePlan) ([][]int, api.Errno) {
	q, e := planOf(r, p)
	if e != api.OK {
		return nil, e
	}
	orders := slices.Collect(q.orders())
	return orders, unless(len(orders) > 0, api.ErrNone)
}

// LoadsOf returns the loads of an order.
func LoadsOf(r api.SurgeRules, p api.SurgePlan, order []int) ([]int, api.Errno) {
	q, e := planOf(r, p)
	if e := first(e, q.checkOrder(order)); e != api.OK {
		return nil, e
	}
	return q.loads(order), api.OK
}

func checkPlan(p api.SurgePlan) (int, api.Errno) {
	if e := first(checkLoad(p.Load), unless(len(p.Changes) <= api.MaxSurgeChanges, api.ErrLarge)); e != api.OK {
		return 0, e
	}
	if i, e := firstItem(p.Changes, checkChange); e != api.OK {
		return i, e
	}
	return 0, first(checkWithin(p.Wait, 1, api.MaxSurgeWait), checkWithin(p.Ticks, 1, api.MaxSurgeTicks))
}

func checkChange(change int) api.Errno {
	return first(checkWithin(change, -api.MaxSurgeLoad, api.MaxSurgeLoad), unless(change != 0, api.ErrZero))
}

// planOf checks rules, and a plan.
func planOf(r api.SurgeRules, p api.SurgePlan) (plan, api.Errno) {
	c, e := chamberOf(r)
	_, planError := checkPlan(p)
	if e := first(e, planError); e != api.OK {
		return plan{}, e
	}
	return plan{chamber: c, SurgePlan: p}, api.OK
}

func (p plan) checkOrder(order []int) api.Errno {
	if len(order) != len(p.Changes) {
		return api.ErrShape
	}
	made := make([]bool, len(order))
	load, permitted := p.Load, true
	_, e := firstItem(order, func(i int) api.Errno {
		if !within(i, 0, len(p.Changes)-1) {
			return api.ErrMissing
		}
		if made[i] {
			return api.ErrDouble
		}
		made[i] = true
		load += p.Changes[i]
		permitted = permitted && isLoad(load)
		return api.OK
	})
	return first(e, unless(permitted, api.ErrRefused))
}

// orders ranges over all permitted orders, in lexicographic order.
func (p plan) orders() iter.Seq[[]int] {
	return func(yield func([]int) bool) {
		var grow func(order []int, load int) bool
		grow = func(order []int, load int) bool {
			if len(order) == len(p.Changes) {
				return yield(slices.Clone(order))
			}
			for i, change := range p.Changes {
				if slices.Contains(order, i) || !isLoad(load+change) {
					continue
				}
				if !grow(append(order, i), load+change) {
					return false
				}
			}
			return true
		}
		grow(nil, p.Load)
	}
}

// loads returns the loads of an order that was checked.
func (p plan) loads(order []int) []int {
	loads := make([]int, p.Ticks)
	load := p.Load
	for tick := range p.Ticks {
		if change := tick / p.Wait; tick%p.Wait == 0 && change < len(order) {
			load += p.Changes[order[change]]
		}
		loads[tick] = load
	}
	return loads
}
