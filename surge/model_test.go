package surge_test

import (
	"cmp"
	"math/big"
	"math/rand/v2"
	"slices"

	"guidevane/api"
)

// This file computes what the chapter defines once more: with whole numbers of any size, and by trying everything. Its rules, states and plans are made at random, but the same ones in every run.

func random(seed uint64) *rand.Rand {
	return rand.New(rand.NewPCG(seed, 4))
}

func between(r *rand.Rand, lo, hi int) int {
	return lo + r.IntN(hi-lo+1)
}

func chosen[T any](r *rand.Rand, l ...T) T {
	return l[r.IntN(len(l))]
}

// randomRules returns rules whose inertia is often as small as it may be.
func randomRules(r *rand.Rand) api.SurgeRules {
	most := chosen(r, 0, 2, 10, api.MaxSurgeFriction)
	lo, hi := between(r, 0, most), between(r, 0, most)
	x := api.SurgeRules{Friction: api.Range{Lo: min(lo, hi), Hi: max(lo, hi)}, Throttle: between(r, 0, chosen(r, 0, 3, api.MaxSurgeFriction))}
	least := (2001*x.Friction.Hi + 4001*x.Throttle + 2000 + 999) / 1000
	x.Inertia = chosen(r, least, least, min(least+3, api.MaxSurgeInertia), between(r, least, api.MaxSurgeInertia))
	x.Area = chosen(r, 1, 2, 5, 40, between(r, 1, api.MaxSurgeArea))
	return x
}

// near returns a number up to a size, often of just this size.
func near(r *rand.Rand, size int) int {
	return chosen(r, between(r, -size, size), between(r, -size, size), size, -size)
}

func randomState(r *rand.Rand) api.SurgeState {
	level, flow := chosen(r, 0, 30, 1000, api.MaxSurgeLevel), chosen(r, 0, 10, 100, api.MaxSurgeFlow)
	return api.SurgeState{Level: near(r, level), Flow: near(r, flow)}
}

// randomBox returns a box around a state.
func randomBox(r *rand.Rand, levels, flows int) api.SurgeBox {
	s := randomState(r)
	lo := api.SurgeState{Level: max(s.Level-r.IntN(levels), -api.MaxSurgeLevel), Flow: max(s.Flow-r.IntN(flows), -api.MaxSurgeFlow)}
	hi := api.SurgeState{Level: min(s.Level+r.IntN(levels), api.MaxSurgeLevel), Flow: min(s.Flow+r.IntN(flows), api.MaxSurgeFlow)}
	return boxOf(lo.Level, hi.Level, lo.Flow, hi.Flow)
}

func boxOf(levelLo, levelHi, flowLo, flowHi int) api.SurgeBox {
	return api.SurgeBox{Levels: api.Range{Lo: levelLo, Hi: levelHi}, Flows: api.Range{Lo: flowLo, Hi: flowHi}}
}

func randomLoads(r *rand.Rand, n int) []int {
	most := chosen(r, 0, 10, api.MaxSurgeLoad)
	l := make([]int, n)
	for i := range l {
		l[i] = between(r, 0, most)
	}
	return l
}

// randomPlan returns a plan that mostly has permitted orders.
func randomPlan(r *rand.Rand, ticks int) api.SurgePlan {
	p := api.SurgePlan{Load: chosen(r, 0, 20, 500, between(r, 0, api.MaxSurgeLoad), api.MaxSurgeLoad), Wait: between(r, 1, api.MaxSurgeWait), Ticks: between(r, 1, ticks)}
	for range r.IntN(api.MaxSurgeChanges + 1) {
		change := between(r, 1, chosen(r, 2, 10, 300, api.MaxSurgeLoad))
		p.Changes = append(p.Changes, chosen(r, change, -change))
	}
	if len(p.Changes) > 1 && r.IntN(3) == 0 {
		p.Changes[1] = p.Changes[0]
	}
	return p
}

func randomStarts(r *rand.Rand, b api.SurgeBox, n int) []api.SurgeState {
	var l []api.SurgeState
	for range n {
		l = append(l, api.SurgeState{Level: between(r, b.Levels.Lo, b.Levels.Hi), Flow: between(r, b.Flows.Lo, b.Flows.Hi)})
	}
	return l
}

func bigProduct(l ...int) *big.Int {
	product := big.NewInt(1)
	for _, n := range l {
		product.Mul(product, big.NewInt(int64(n)))
	}
	return product
}

// modelLoss returns the head lost by a flow. Quo rounds towards 0.
func modelLoss(friction, flow int) *big.Int {
	product := bigProduct(friction, flow, flow)
	if flow < 0 {
		product.Neg(product)
	}
	return product.Quo(product, big.NewInt(1000))
}

// modelStep returns the state after a step. Div rounds down where the divisor is positive.
func modelStep(x api.SurgeRules, s api.SurgeState, load, friction int) api.SurgeState {
	head := big.NewInt(int64(s.Level))
	head.Add(head, modelLoss(friction, s.Flow))
	head.Add(head, modelLoss(x.Throttle, s.Flow-load))
	slower := new(big.Int).Div(head, big.NewInt(int64(x.Inertia)))
	flow := s.Flow - int(slower.Int64())
	if flow > 1000 {
		flow = 1000
	}
	if flow < -1000 {
		flow = -1000
	}
	rise := new(big.Int).Div(big.NewInt(int64(flow-load)), big.NewInt(int64(x.Area)))
	return api.SurgeState{Level: s.Level + int(rise.Int64()), Flow: flow}
}

func modelRun(x api.SurgeRules, s api.SurgeState, loads []int, friction int) []api.SurgeState {
	var l []api.SurgeState
	for _, load := range loads {
		s = modelStep(x, s, load, friction)
		l = append(l, s)
	}
	return l
}

func modelHighest(x api.SurgeRules, s api.SurgeState, loads []int, friction int) int {
	var levels []int
	for _, after := range modelRun(x, s, loads, friction) {
		levels = append(levels, after.Level)
	}
	return slices.Max(levels)
}

func modelBoxStep(x api.SurgeRules, b api.SurgeBox, load int) api.SurgeBox {
	var lowest, highest, slowest, fastest []int
	for _, friction := range []int{x.Friction.Lo, x.Friction.Hi} {
		lowest = append(lowest, modelStep(x, api.SurgeState{Level: b.Levels.Lo, Flow: b.Flows.Lo}, load, friction).Level)
		highest = append(highest, modelStep(x, api.SurgeState{Level: b.Levels.Hi, Flow: b.Flows.Hi}, load, friction).Level)
		slowest = append(slowest, modelStep(x, api.SurgeState{Level: b.Levels.Hi, Flow: b.Flows.Lo}, load, friction).Flow)
		fastest = append(fastest, modelStep(x, api.SurgeState{Level: b.Levels.Lo, Flow: b.Flows.Hi}, load, friction).Flow)
	}
	return boxOf(slices.Min(lowest), slices.Max(highest), slices.Min(slowest), slices.Max(fastest))
}

func modelBoxRun(x api.SurgeRules, b api.SurgeBox, loads []int) []api.SurgeBox {
	var l []api.SurgeBox
	for _, load := range loads {
		b = modelBoxStep(x, b, load)
		l = append(l, b)
	}
	return l
}

// modelOrders tries all lists of as many indexes as there are changes, in lexicographic order.
func modelOrders(p api.SurgePlan) [][]int {
	n := len(p.Changes)
	lists := 1
	for range n {
		lists *= n
	}
	var orders [][]int
	for code := range lists {
		order := make([]int, n)
		for i := n - 1; i >= 0; i-- {
			order[i] = code % n
			code /= n
		}
		if isOrder(p, order) {
			orders = append(orders, order)
		}
	}
	return orders
}

// isOrder tells whether a list of indexes of changes has each once, and is permitted.
func isOrder(p api.SurgePlan, order []int) bool {
	for i := range order {
		if !slices.Contains(order, i) {
			return false
		}
		load := p.Load
		for _, change := range order[:i+1] {
			load += p.Changes[change]
		}
		if load < 0 || load > 1000 {
			return false
		}
	}
	return true
}

func modelLoads(p api.SurgePlan, order []int) []int {
	var loads []int
	for tick := range p.Ticks {
		load := p.Load
		for j, change := range order {
			if j*p.Wait <= tick {
				load += p.Changes[change]
			}
		}
		loads = append(loads, load)
	}
	return loads
}

// modelWorst sorts all witnesses, and returns the first one, or none.
func modelWorst(x api.SurgeRules, p api.SurgePlan, starts []api.SurgeState) []api.SurgeWitness {
	type candidate struct {
		api.SurgeWitness
		start, end int
	}
	var l []candidate
	for end, friction := range []int{x.Friction.Lo, x.Friction.Hi} {
		for i, start := range starts {
			for _, order := range modelOrders(p) {
				level := modelHighest(x, start, modelLoads(p, order), friction)
				l = append(l, candidate{api.SurgeWitness{Order: order, Start: start, Friction: friction, Level: level}, i, end})
			}
		}
	}
	if len(l) == 0 {
		return nil
	}
	slices.SortFunc(l, func(a, b candidate) int {
		return cmp.Or(cmp.Compare(b.Level, a.Level), slices.Compare(a.Order, b.Order), cmp.Compare(a.start, b.start), cmp.Compare(a.end, b.end))
	})
	return []api.SurgeWitness{l[0].SurgeWitness}
}

// modelParts puts each number of a range into the last part that begins at it or before.
func modelParts(x api.Range, parts int) []api.Range {
	n := x.Hi - x.Lo + 1
	var l []api.Range
	before := -1
	for k := range n {
		part := 0
		for i := range parts {
			if i*n/parts <= k {
				part = i
			}
		}
		if part == before {
			l[len(l)-1].Hi = x.Lo + k
		} else {
			l = append(l, api.Range{Lo: x.Lo + k, Hi: x.Lo + k})
		}
		before = part
	}
	return l
}

func modelCover(x api.SurgeCover) []api.SurgeBox {
	var l []api.SurgeBox
	for _, levels := range modelParts(x.Starts.Levels, x.Parts) {
		for _, flows := range modelParts(x.Starts.Flows, x.Parts) {
			l = append(l, api.SurgeBox{Levels: levels, Flows: flows})
		}
	}
	return l
}

// modelBound returns the bound of boxes, or none.
func modelBound(x api.SurgeRules, p api.SurgePlan, boxes []api.SurgeBox) []api.Range {
	var lows, highs []int
	for _, order := range modelOrders(p) {
		for _, b := range boxes {
			for _, after := range modelBoxRun(x, b, modelLoads(p, order)) {
				lows = append(lows, after.Levels.Lo)
				highs = append(highs, after.Levels.Hi)
			}
		}
	}
	if len(lows) == 0 {
		return nil
	}
	return []api.Range{{Lo: slices.Min(lows), Hi: slices.Max(highs)}}
}

// modelWaits returns the bounds of a cover with all waits from 1 on, or none.
func modelWaits(x api.SurgeRules, p api.SurgePlan, c api.SurgeCover) []api.Range {
	var bounds []api.Range
	for wait := 1; wait <= 20; wait++ {
		p.Wait = wait
		bounds = append(bounds, modelBound(x, p, modelCover(c))...)
	}
	return bounds
}

func liesIn(s api.SurgeState, b api.SurgeBox) bool {
	return b.Levels.Lo <= s.Level && s.Level <= b.Levels.Hi && b.Flows.Lo <= s.Flow && s.Flow <= b.Flows.Hi
}

// inside tells whether a range lies in another one.
func inside(a, b api.Range) bool {
	return b.Lo <= a.Lo && a.Hi <= b.Hi
}

func boxInside(a, b api.SurgeBox) bool {
	return inside(a.Levels, b.Levels) && inside(a.Flows, b.Flows)
}

// statesOf returns all states of a box.
func statesOf(b api.SurgeBox) []api.SurgeState {
	var l []api.SurgeState
	for level := b.Levels.Lo; level <= b.Levels.Hi; level++ {
		for flow := b.Flows.Lo; flow <= b.Flows.Hi; flow++ {
			l = append(l, api.SurgeState{Level: level, Flow: flow})
		}
	}
	return l
}

// smaller returns a box that lies in another one.
func smaller(r *rand.Rand, b api.SurgeBox) api.SurgeBox {
	part := func(x api.Range) api.Range {
		i, j := between(r, x.Lo, x.Hi), between(r, x.Lo, x.Hi)
		return api.Range{Lo: min(i, j), Hi: max(i, j)}
	}
	return api.SurgeBox{Levels: part(b.Levels), Flows: part(b.Flows)}
}
