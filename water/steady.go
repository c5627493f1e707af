package water

import (
	"slices"
	"sort"

	"guidevane/api"
)

// CirculationOf returns the circulation of a net.
func CirculationOf(n api.WaterNet) (api.Range, api.Errno) {
	c, e := steadyCircuit(n)
	if e != api.OK {
		return api.Range{}, e
	}
	return c.circulation(), api.OK
}

// CheckCirculation accepts the circulation of a net.
func CheckCirculation(n api.WaterNet, r api.Range) api.Errno {
	c, e := circuitOf(n)
	e = first(
		e,
		checkCirculation(r.Lo),
		checkCirculation(r.Hi),
		unless(r.Lo <= r.Hi, api.ErrOrder))
	if e != api.OK {
		return e
	}
	return first(c.checkFriction(), unless(c.circulates(r), api.ErrProof))
}

// SteadyOf returns the steady state of a net.
func SteadyOf(n api.WaterNet) (api.WaterSteady, api.Errno) {
	c, e := steadyCircuit(n)
	if e != api.OK {
		return api.WaterSteady{}, e
	}
	return c.steady(), api.OK
}

// HeadAnswer returns whether the head of a node is at least a limit.
func HeadAnswer(n api.WaterNet, node, limit int) (int, api.Errno) {
	c, e := circuitWithLimit(n, node, limit)
	if e != api.OK {
		return 0, e
	}
	return c.answer(node, limit), api.OK
}

// MostDraw returns the most that may be drawn from a junction in addition, if its head is to be surely at least a limit.
func MostDraw(n api.WaterNet, node, limit int) (int, api.Errno) {
	c, e := circuitWithLimit(n, node, limit)
	if e != api.OK {
		return 0, e
	}
	x := c.Nodes[node]
	e = first(
		unless(!x.Lake, api.ErrKind),
		unless(x.Draw <= api.MaxWaterDraw-api.MaxWaterMore, api.ErrRange))
	if e != api.OK {
		return 0, e
	}
	for more := api.MaxWaterMore; more >= 0; more-- {
		if c.withMore(node, more).answer(node, limit) == api.AnswerYes {
			return more, api.OK
		}
	}
	return 0, api.ErrNone
}

// steadyCircuit checks a net that has a circulation.
func steadyCircuit(n api.WaterNet) (circuit, api.Errno) {
	c, e := circuitOf(n)
	if e != api.OK {
		return c, e
	}
	return c, c.checkFriction()
}

// circuitWithLimit checks a net that has a circulation, a node of it, and a limit of its head.
func circuitWithLimit(n api.WaterNet, node, limit int) (circuit, api.Errno) {
	c, e := steadyCircuit(n)
	return c, first(
		e,
		c.checkNodeIndex(node),
		unless(within(limit, 0, api.WaterPart*api.MaxWaterHead), api.ErrRange))
}

// checkFriction returns ErrZero if the circulation does not matter.
func (c circuit) checkFriction() api.Errno {
	return unless(!c.hasLoop() || c.gap(-api.MaxWaterFlow) != c.gap(api.MaxWaterFlow), api.ErrZero)
}

func (c circuit) circulation() api.Range {
	if !c.hasLoop() {
		return api.Range{}
	}
	i := sort.Search(2*api.MaxWaterFlow, func(i int) bool { return c.gap(i-api.MaxWaterFlow) >= 0 })
	flow := i - api.MaxWaterFlow
	if c.gap(flow) == 0 {
		return api.Range{Lo: flow, Hi: flow}
	}
	return api.Range{Lo: flow - 1, Hi: flow}
}

// circulates tells, without a search, whether a range is the circulation.
func (c circuit) circulates(r api.Range) bool {
	if !c.hasLoop() {
		return r == api.Range{}
	}
	if r.Lo == r.Hi {
		return c.gap(r.Lo) == 0
	}
	return r.Hi-r.Lo == 1 && c.gap(r.Lo) < 0 && c.gap(r.Hi) > 0
}

func (c circuit) steady() api.WaterSteady {
	r := c.circulation()
	a, b := c.state(r.Lo), c.state(r.Hi)
	return api.WaterSteady{Flows: enclosures(a.Flows, b.Flows), Heads: enclosures(a.Heads, b.Heads)}
}

// enclosures returns the ranges between the numbers of two slices.
func enclosures(a, b []int) []api.Range {
	l := make([]api.Range, len(a))
	for i := range a {
		l[i] = api.Range{Lo: min(a[i], b[i]), Hi: max(a[i], b[i])}
	}
	return l
}

func (c circuit) answer(node, limit int) int {
	head := c.steady().Heads[node]
	switch {
	case head.Lo >= limit:
		return api.AnswerYes
	case head.Hi < limit:
		return api.AnswerNo
	}
	return api.AnswerMaybe
}

// withMore returns the circuit in which more is drawn from a junction. Its tree is the same.
func (c circuit) withMore(node, more int) circuit {
	c.Nodes = slices.Clone(c.Nodes)
	c.Nodes[node].Draw += more
	return c
}
