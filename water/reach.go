package water

import (
	"slices"

	"guidevane/api"
)

// ReachedFrom returns the nodes that are reached from a node.
func ReachedFrom(n api.WaterNet, node int) ([]int, api.Errno) {
	c, e := netOf(n)
	if e := first(e, c.checkNodeIndex(node)); e != api.OK {
		return nil, e
	}
	arrivals := c.search(c.isOpen, node)
	return indexes(len(c.Nodes), arrivals.has), api.OK
}

// WetIn returns the wet conduits.
func WetIn(n api.WaterNet) ([]int, api.Errno) {
	c, e := netOf(n)
	if e != api.OK {
		return nil, e
	}
	return c.wet(), api.OK
}

// FilledBy returns the conduits that a conduit's valve fills.
func FilledBy(n api.WaterNet, conduit int) ([]int, api.Errno) {
	c, e := netOf(n)
	if e := first(e, c.checkConduitIndex(conduit)); e != api.OK {
		return nil, e
	}
	if !c.Conduits[conduit].Valve {
		return nil, api.ErrNone
	}
	before := c.with(conduit, false).wet()
	after := c.with(conduit, true).wet()
	return slices.DeleteFunc(after, func(i int) bool { return slices.Contains(before, i) }), api.OK
}

// arrivals is the leg on which each node was reached first. The legs of nodes where the search began are never asked for.
type arrivals map[int]leg

func (a arrivals) has(node int) bool {
	_, ok := a[node]
	return ok
}

// search reaches from nodes what usable legs reach, and first what the fewest legs reach.
func (n net) search(usable func(l leg) bool, nodes ...int) arrivals {
	reached := arrivals{}
	for _, node := range nodes {
		reached[node] = leg{conduit: none, from: node, to: node}
	}
	for queue := slices.Clone(nodes); len(queue) > 0; queue = queue[1:] {
		for i := range n.Conduits {
			l, ok := n.legFrom(queue[0], i)
			if ok && !reached.has(l.to) && usable(l) {
				reached[l.to] = l
				queue = append(queue, l.to)
			}
		}
	}
	return reached
}

// path returns a path of usable legs in which no node occurs twice, and whether there is one.
func (n net) path(w api.WaterWay, usable func(l leg) bool) ([]leg, bool) {
	reached := n.search(usable, w.From)
	if !reached.has(w.To) {
		return nil, false
	}
	var path []leg
	for node := w.To; node != w.From; {
		l := reached[node]
		path = append(path, l)
		node = l.from
	}
	slices.Reverse(path)
	return path, true
}

// wet asks for the nodes To alone, since an open conduit whose node From is reached leads on to its node To.
func (n net) wet() []int {
	reached := n.search(n.isOpen, n.lakes()...)
	return indexes(len(n.Conduits), func(i int) bool { return reached.has(n.Conduits[i].To) })
}
