package dispatch

import (
	"cmp"
	"slices"

	"guidevane/api"
)

// CheckRevisions returns the error of revisions, with the index of the machine.
func CheckRevisions(l []api.DispatchRevision) (int, api.Errno) {
	if e := checkCount(len(l), api.MaxDispatchRevisions); e != api.OK {
		return 0, e
	}
	checkName := newNames()
	return firstItem(l, func(r api.DispatchRevision) api.Errno {
		return first(
			checkName(r.Name),
			checkWithin(0, api.MaxDispatchDays, r.Due),
			checkWithin(1, api.MaxDispatchDays, r.Days))
	})
}

// LatenessOf returns the lateness of an order.
func LatenessOf(l []api.DispatchRevision, order []int) (int, api.Errno) {
	if e := checkOrder(l, order); e != api.OK {
		return 0, e
	}
	return lateness(l, order), api.OK
}

// BestOrder returns the best order and its lateness.
func BestOrder(l []api.DispatchRevision) ([]int, int, api.Errno) {
	if _, e := CheckRevisions(l); e != api.OK {
		return nil, 0, e
	}
	order := completed(l)
	best := lateness(l, order)
	// Each place gets the first machine after which the others, by ascending Due, need not be later.
	for i := range order {
		for machine := range l {
			next := completed(l, slices.Concat(order[:i], []int{machine})...)
			if !slices.Contains(order[:i], machine) && lateness(l, next) == best {
				order = next
				break
			}
		}
	}
	return order, best, api.OK
}

// GroupOf returns the minimum group whose bound is the best lateness.
func GroupOf(l []api.DispatchRevision) ([]int, api.Errno) {
	if _, e := CheckRevisions(l); e != api.OK {
		return nil, e
	}
	order := completed(l)
	best := lateness(l, order)
	hasBound := func(last int) bool { return boundOf(l, dueWith(l, last)) == best }
	last := order[slices.IndexFunc(order, hasBound)]
	return dueWith(l, last), api.OK
}

// checkOrder returns the error of revisions, and then that of an order.
func checkOrder(l []api.DispatchRevision, order []int) api.Errno {
	_, e := CheckRevisions(l)
	if e := first(e, unless(len(order) == len(l), api.ErrShape)); e != api.OK {
		return e
	}
	for i, machine := range order {
		if e := first(
			checkIndex(machine, len(l)),
			unless(!slices.Contains(order[:i], machine), api.ErrDouble)); e != api.OK {
			return e
		}
	}
	return api.OK
}

func lateness(l []api.DispatchRevision, order []int) int {
	var latenesses []int
	day := 0
	for _, machine := range order {
		day += l[machine].Days
		latenesses = append(latenesses, day-l[machine].Due)
	}
	return slices.Max(latenesses)
}

// completed returns the order that begins as given, and goes on with the other machines by ascending Due. No other order that begins so is less late.
func completed(l []api.DispatchRevision, begin ...int) []int {
	var others []int
	for machine := range l {
		if !slices.Contains(begin, machine) {
			others = append(others, machine)
		}
	}
	slices.SortStableFunc(others, func(a, b int) int { return cmp.Compare(l[a].Due, l[b].Due) })
	return slices.Concat(begin, others)
}

// boundOf returns the bound of a group.
func boundOf(l []api.DispatchRevision, group []int) int {
	days, due := 0, 0
	for _, machine := range group {
		days += l[machine].Days
		due = max(due, l[machine].Due)
	}
	return days - due
}

// dueWith returns the machines that are due no later than the last one of a group. A group whose bound is the best lateness contains all of them: each one more would raise the bound, and no bound is above the best lateness.
func dueWith(l []api.DispatchRevision, last int) []int {
	var group []int
	for machine, r := range l {
		if r.Due <= l[last].Due {
			group = append(group, machine)
		}
	}
	return group
}
