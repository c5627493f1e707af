package water

import (
	"slices"

	"guidevane/api"
)

// tree is a net all of whose nodes are in its tree, and the legs on which junctions came into it, in this order.
type tree struct {
	net
	legs []leg
}

// circuit is a tree, and the closing conduit (or none).
type circuit struct {
	tree
	closing int
}

// TreeOf returns the conduits of the tree.
func TreeOf(n api.WaterNet) ([]int, api.Errno) {
	t, e := treeOf(n)
	if e != api.OK {
		return nil, e
	}
	return indexes(len(t.Conduits), t.has), api.OK
}

// ClosingOf returns the closing conduit.
func ClosingOf(n api.WaterNet) (int, api.Errno) {
	c, e := loopOf(n)
	if e != api.OK {
		return 0, e
	}
	return c.closing, api.OK
}

// StateAt returns the state at a circulation.
func StateAt(n api.WaterNet, circulation int) (api.WaterState, api.Errno) {
	c, e := circuitOf(n)
	e = first(
		e,
		checkCirculation(circulation),
		unless(circulation == 0 || c.hasLoop(), api.ErrForm))
	if e != api.OK {
		return api.WaterState{}, e
	}
	return c.state(circulation), api.OK
}

// GapAt returns the gap at a circulation.
func GapAt(n api.WaterNet, circulation int) (int, api.Errno) {
	c, e := loopOf(n)
	if e := first(e, checkCirculation(circulation)); e != api.OK {
		return 0, e
	}
	return c.gap(circulation), api.OK
}

// treeOf checks a net, and whether all junctions come into its tree.
func treeOf(n api.WaterNet) (tree, api.Errno) {
	c, e := netOf(n)
	if e != api.OK {
		return tree{}, e
	}
	t := c.grow()
	return t, unless(len(c.lakes())+len(t.legs) == len(c.Nodes), api.ErrGap)
}

// circuitOf checks a net and its form.
func circuitOf(n api.WaterNet) (circuit, api.Errno) {
	t, e := treeOf(n)
	if e != api.OK {
		return circuit{}, e
	}
	others := indexes(len(t.Conduits), func(i int) bool { return t.Conduits[i].Open && !t.has(i) })
	switch len(others) {
	case 0:
		return circuit{tree: t, closing: none}, api.OK
	case 1:
		return circuit{tree: t, closing: others[0]}, api.OK
	}
	return circuit{}, api.ErrLarge
}

// loopOf checks a net, its form, and whether it has a closing conduit.
func loopOf(n api.WaterNet) (circuit, api.Errno) {
	c, e := circuitOf(n)
	return c, first(e, unless(c.hasLoop(), api.ErrNone))
}

func (n net) grow() tree {
	t := tree{net: n}
	in := map[int]bool{}
	for _, lake := range n.lakes() {
		in[lake] = true
	}
	for {
		l, ok := n.legOut(in)
		if !ok {
			return t
		}
		in[l.to] = true
		t.legs = append(t.legs, l)
	}
}

// legOut returns the leg of the first open conduit that leads out of a set of nodes.
func (n net) legOut(in map[int]bool) (leg, bool) {
	for i, c := range n.Conduits {
		if !c.Open || in[c.From] == in[c.To] {
			continue
		}
		if in[c.From] {
			return n.legFrom(c.From, i)
		}
		return n.legFrom(c.To, i)
	}
	return leg{}, false
}

func (t tree) has(conduit int) bool {
	return slices.ContainsFunc(t.legs, func(l leg) bool { return l.conduit == conduit })
}

// hasLoop tells whether there is a closing conduit.
func (c circuit) hasLoop() bool {
	return c.closing != none
}

// state sums up draws from the last leg to the first one, so that those of all nodes behind a leg are known, and heads from the first one to the last one.
func (c circuit) state(circulation int) api.WaterState {
	draws := c.draws(circulation)
	s := api.WaterState{Flows: make([]int, len(c.Conduits)), Heads: make([]int, len(c.Nodes))}
	if c.hasLoop() {
		s.Flows[c.closing] = circulation
	}
	for _, l := range slices.Backward(c.legs) {
		s.Flows[l.conduit] = c.sign(l) * draws[l.to]
		draws[l.from] += draws[l.to]
	}
	for i, x := range c.Nodes {
		s.Heads[i] = api.WaterPart * x.Head
	}
	for _, l := range c.legs {
		s.Heads[l.to] = s.Heads[l.from] - loss(c.Conduits[l.conduit].Resist, draws[l.to])
	}
	return s
}

// draws returns what is drawn from each node at a circulation. What a lake gives or takes is counted too, but never asked for.
func (c circuit) draws(circulation int) []int {
	draws := make([]int, len(c.Nodes))
	for i, x := range c.Nodes {
		draws[i] = x.Draw
	}
	if c.hasLoop() {
		x := c.Conduits[c.closing]
		draws[x.From] += circulation
		draws[x.To] -= circulation
	}
	return draws
}

func (c circuit) gap(circulation int) int {
	x, heads := c.Conduits[c.closing], c.state(circulation).Heads
	return loss(x.Resist, circulation) - (heads[x.From] - heads[x.To])
}
