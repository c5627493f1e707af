package dispatch_test

import (
	"math/rand/v2"
	"slices"
	"strconv"

	"guidevane/api"
)

// This file computes what the chapter defines once more: with all plans, orders and groups tried, or, where there are too many plans, from the first hour on. Its plants and tasks are made at random, but the same ones in every run.

func random(seed uint64) *rand.Rand {
	return rand.New(rand.NewPCG(seed, 8))
}

func between(r *rand.Rand, lo, hi int) int {
	return lo + r.IntN(hi-lo+1)
}

func chosen[T any](r *rand.Rand, l ...T) T {
	return l[r.IntN(len(l))]
}

// kind says what random plants and tasks are like: the most modes and hours, the most different volumes, and the size of changes, of energies and of prices.
type kind struct{ modes, hours, span, change, price int }

func anyKind(r *rand.Rand) kind {
	k := kind{modes: between(r, 1, 5), hours: between(r, 1, 10), span: chosen(r, 1, 2, 5, 12, 40), change: chosen(r, 1, 2, 5, 20), price: chosen(r, 1, 3, 20, api.MaxDispatchPrice)}
	for plans(k.modes, k.hours) > 3000 {
		k.hours--
	}
	return k
}

func plans(modes, hours int) int {
	n := 1
	for range hours {
		n *= modes
	}
	return n
}

// randomTask returns a plant and a task without errors, with just as many modes and hours.
func randomTask(r *rand.Rand, k kind) (api.DispatchPlant, api.DispatchTask) {
	span := between(r, 1, k.span)
	p := api.DispatchPlant{Lo: chosen(r, 0, 0, 1, 1000, api.MaxDispatchVolume-span+1)}
	p.Hi = p.Lo + span - 1
	for i := range k.modes {
		m := api.DispatchMode{Name: "mode" + strconv.Itoa(i), Change: between(r, -k.change, k.change), Energy: between(r, -k.price, k.price), Start: between(r, 0, k.price)}
		m.Energy = chosen(r, m.Energy, m.Energy, m.Energy, 0)
		m.Change = chosen(r, m.Change, m.Change, m.Change, 0)
		p.Modes = append(p.Modes, m)
	}
	t := api.DispatchTask{Volume: between(r, p.Lo, p.Hi), Mode: r.IntN(k.modes), Worth: between(r, -k.price, k.price)}
	for range k.hours {
		h := api.DispatchHour{Buy: between(r, -k.price, k.price), Inflow: chosen(r, 0, 0, between(r, -2, 2), between(r, -k.change, k.change))}
		h.Sell = between(r, -k.price, h.Buy)
		t.Hours = append(t.Hours, h)
	}
	return p, t
}

func modelVolumes(p api.DispatchPlant, t api.DispatchTask, plan []int) []int {
	l := []int{t.Volume}
	for i := range plan {
		volume := t.Volume
		for h := 0; h <= i; h++ {
			volume += t.Hours[h].Inflow + p.Modes[plan[h]].Change
		}
		l = append(l, volume)
	}
	return l
}

func modelIsPossible(p api.DispatchPlant, t api.DispatchTask, plan []int) bool {
	l := modelVolumes(p, t, plan)
	return slices.Min(l) >= p.Lo && slices.Max(l) <= p.Hi
}

func modelRevenue(p api.DispatchPlant, t api.DispatchTask, hour, before, mode int) int {
	m, sum := p.Modes[mode], 0
	switch {
	case m.Energy > 0:
		sum = t.Hours[hour].Sell * m.Energy
	case m.Energy < 0:
		sum = t.Hours[hour].Buy * m.Energy
	}
	if before == mode {
		return sum
	}
	return sum - m.Start
}

func modelValue(p api.DispatchPlant, t api.DispatchTask, plan []int) int {
	l := modelVolumes(p, t, plan)
	sum := l[len(l)-1] * t.Worth
	for h, mode := range plan {
		before := t.Mode
		if h > 0 {
			before = plan[h-1]
		}
		sum += modelRevenue(p, t, h, before, mode)
	}
	return sum
}

func modelStarts(t api.DispatchTask, plan []int) int {
	n := 0
	for h, mode := range append([]int{t.Mode}, plan...) {
		if h < len(plan) && plan[h] != mode {
			n++
		}
	}
	return n
}

// possiblePlans returns all plans that are possible, the lexicographically first one first.
func possiblePlans(p api.DispatchPlant, t api.DispatchTask) [][]int {
	all := [][]int{nil}
	for range t.Hours {
		var longer [][]int
		for _, plan := range all {
			for mode := range p.Modes {
				if next := append(slices.Clone(plan), mode); modelIsPossible(p, t, next) {
					longer = append(longer, next)
				}
			}
		}
		all = longer
	}
	return all
}

// modelBest returns the first one of plans that is worth most.
func modelBest(p api.DispatchPlant, t api.DispatchTask, all [][]int) ([]int, int, api.Errno) {
	var best []int
	most := 0
	for _, plan := range all {
		if n := modelValue(p, t, plan); best == nil || n > most {
			best, most = plan, n
		}
	}
	if best == nil {
		return nil, 0, api.ErrNone
	}
	return best, most, api.OK
}

// modelCell is a volume and a mode.
type modelCell struct{ volume, mode int }

// modelBestFromFirst finds the best of the plans all of whose volumes before an hour are allowed, from the first hour on.
func modelBestFromFirst(p api.DispatchPlant, t api.DispatchTask, allowed func(hour, volume int) bool) ([]int, int, api.Errno) {
	type way struct {
		plan  []int
		value int
	}
	ways := map[modelCell]way{{t.Volume, t.Mode}: {}}
	isBetter := func(w, old way) bool {
		return w.value > old.value || w.value == old.value && slices.Compare(w.plan, old.plan) < 0
	}
	for h := range t.Hours {
		next := map[modelCell]way{}
		for c, w := range ways {
			for k := range p.Modes {
				volume := c.volume + t.Hours[h].Inflow + p.Modes[k].Change
				if volume < p.Lo || volume > p.Hi || !allowed(h, c.volume) {
					continue
				}
				longer := way{append(slices.Clone(w.plan), k), w.value + modelRevenue(p, t, h, c.mode, k)}
				if old, ok := next[modelCell{volume, k}]; !ok || isBetter(longer, old) {
					next[modelCell{volume, k}] = longer
				}
			}
		}
		ways = next
	}
	var best way
	for c, w := range ways {
		w.value += t.Worth * c.volume
		if best.plan == nil || isBetter(w, best) {
			best = w
		}
	}
	if best.plan == nil {
		return nil, 0, api.ErrNone
	}
	return best.plan, best.value, api.OK
}

func modelReachable(p api.DispatchPlant, t api.DispatchTask, all [][]int, hour int) []int {
	var l []int
	for volume := p.Lo; volume <= p.Hi; volume++ {
		if slices.ContainsFunc(all, func(plan []int) bool { return modelVolumes(p, t, plan)[hour] == volume }) {
			l = append(l, volume)
		}
	}
	return l
}

// modelCan tells whether a reserve can be given for n hours from an hour on.
func modelCan(p api.DispatchPlant, t api.DispatchTask, hour, volume, mode, n int) bool {
	if hour+n > len(t.Hours) {
		return false
	}
	for h := hour; h < hour+n; h++ {
		volume = volume + p.Modes[mode].Change + t.Hours[h].Inflow
		if volume > p.Hi || volume < p.Lo {
			return false
		}
	}
	return true
}

func modelReserve(p api.DispatchPlant, t api.DispatchTask, plan []int, mode int) []int {
	var l []int
	for h := range t.Hours {
		n := 10
		for !modelCan(p, t, h, modelVolumes(p, t, plan)[h], mode, n) {
			n--
		}
		l = append(l, n)
	}
	return l
}

func modelPromised(p api.DispatchPlant, t api.DispatchTask, plan []int, mode int) int {
	l := modelReserve(p, t, plan, mode)
	for h := range l {
		if l[h] == len(l)-h {
			l[h] = 10
		}
	}
	return slices.Min(l)
}

func modelHolds(p api.DispatchPlant, t api.DispatchTask, plan []int, hold api.DispatchHold) bool {
	for h := range t.Hours {
		n := hold.Hours
		if left := len(t.Hours) - h; left < n {
			n = left
		}
		if !modelCan(p, t, h, modelVolumes(p, t, plan)[h], hold.Mode, n) {
			return false
		}
	}
	return true
}

// modelCells returns all cells by their numbers.
func modelCells(p api.DispatchPlant) []modelCell {
	var l []modelCell
	for n := range (p.Hi - p.Lo + 1) * len(p.Modes) {
		l = append(l, modelCell{p.Lo + n/len(p.Modes), n % len(p.Modes)})
	}
	return l
}

// modelNeeds returns the least number of a cell at a time, with the numbers later, or lowest if there is none.
func modelNeeds(p api.DispatchPlant, t api.DispatchTask, time int, c modelCell, later []int, lowest int) int {
	if time == len(t.Hours) {
		return c.volume * t.Worth
	}
	for k := range p.Modes {
		volume := c.volume + p.Modes[k].Change + t.Hours[time].Inflow
		if volume >= p.Lo && volume <= p.Hi {
			lowest = max(lowest, modelRevenue(p, t, time, c.mode, k)+later[len(p.Modes)*(volume-p.Lo)+k])
		}
	}
	return lowest
}

// modelIsValid tells whether potentials are valid.
func modelIsValid(p api.DispatchPlant, t api.DispatchTask, potentials [][]int) bool {
	for time, l := range potentials {
		var later []int
		if time < len(t.Hours) {
			later = potentials[time+1]
		}
		for i, c := range modelCells(p) {
			if l[i] < modelNeeds(p, t, time, c, later, -1<<62) {
				return false
			}
		}
	}
	return true
}

// modelPotentials returns valid potentials: the least ones, plus up to more each. A cell from which no mode leads on has any number.
func modelPotentials(r *rand.Rand, p api.DispatchPlant, t api.DispatchTask, more int) [][]int {
	l := make([][]int, len(t.Hours)+1)
	for time := len(t.Hours); time >= 0; time-- {
		for _, c := range modelCells(p) {
			var later []int
			if time < len(t.Hours) {
				later = l[time+1]
			}
			l[time] = append(l[time], modelNeeds(p, t, time, c, later, chosen(r, -9000000000, -5, 0, 700))+r.IntN(more+1))
		}
	}
	return l
}

func modelBound(p api.DispatchPlant, t api.DispatchTask, potentials [][]int) int {
	return potentials[0][slices.Index(modelCells(p), modelCell{t.Volume, t.Mode})]
}

// orders returns all orders of n machines, the lexicographically first one first.
func orders(n int) [][]int {
	all := [][]int{nil}
	for range n {
		var longer [][]int
		for _, order := range all {
			for i := range n {
				if !slices.Contains(order, i) {
					longer = append(longer, append(slices.Clone(order), i))
				}
			}
		}
		all = longer
	}
	return all
}

func modelLateness(l []api.DispatchRevision, order []int) int {
	worst := -1 << 62
	for i := range order {
		end := 0
		for _, machine := range order[:i+1] {
			end += l[machine].Days
		}
		worst = max(worst, end-l[order[i]].Due)
	}
	return worst
}

func modelBestOrder(l []api.DispatchRevision) ([]int, int) {
	var best []int
	least := 0
	for _, order := range orders(len(l)) {
		if n := modelLateness(l, order); best == nil || n < least {
			best, least = order, n
		}
	}
	return best, least
}

// groups returns all groups of n machines by their sizes, and then lexicographically.
func groups(n int) [][]int {
	var all [][]int
	last := [][]int{nil}
	for range n {
		var longer [][]int
		for _, group := range last {
			for i := range n {
				if len(group) == 0 || i > group[len(group)-1] {
					longer = append(longer, append(slices.Clone(group), i))
				}
			}
		}
		all, last = append(all, longer...), longer
	}
	return all
}

func modelGroupBound(l []api.DispatchRevision, group []int) int {
	sum, latest := 0, 0
	for _, i := range group {
		sum += l[i].Days
		if l[i].Due > latest {
			latest = l[i].Due
		}
	}
	return sum - latest
}

func modelGroup(l []api.DispatchRevision) []int {
	_, least := modelBestOrder(l)
	return modelGroupOf(l, least)
}

// modelGroupOf returns the first group with a bound.
func modelGroupOf(l []api.DispatchRevision, least int) []int {
	for _, group := range groups(len(l)) {
		if modelGroupBound(l, group) == least {
			return group
		}
	}
	return nil
}

// modelFollowed moves the power by single kilowatts.
func modelFollowed(start, ramp int, wanted []int) []int {
	var l []int
	for _, w := range wanted {
		for range ramp {
			if start < w {
				start++
			} else if start > w {
				start--
			}
		}
		l = append(l, start)
	}
	return l
}

func modelSettled(wanted, measured []int) api.DispatchSettled {
	var s api.DispatchSettled
	abs := func(n int) int {
		if n < 0 {
			return -n
		}
		return n
	}
	for i, w := range wanted {
		m, energy := measured[i], 0
		if w > 0 && m > 0 || w < 0 && m < 0 {
			energy = min(abs(w), abs(m))
		}
		s.Energy, s.Missed, s.Over = s.Energy+energy, s.Missed+abs(w)-energy, s.Over+abs(m)-energy
	}
	return s
}
