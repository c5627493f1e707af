package water

import (
	"slices"

	"guidevane/api"
)

// net is a net that was checked.
type net struct{ api.WaterNet }

// leg is a conduit that is passed from one of its nodes to the other one.
type leg struct{ conduit, from, to int }

// CheckNet returns the error of a net, and the index of its node or conduit.
func CheckNet(n api.WaterNet) (int, api.Errno) {
	e := first(
		unless(len(n.Nodes) > 0 && len(n.Conduits) > 0, api.ErrShape),
		unless(len(n.Nodes) <= api.MaxWaterNodes && len(n.Conduits) <= api.MaxWaterConduits, api.ErrLarge))
	if e != api.OK {
		return 0, e
	}
	nodeName, conduitName := newNames(), newNames()
	i, e := firstItem(n.Nodes, func(x api.WaterNode) api.Errno {
		return first(nodeName(x.Name), checkNode(x))
	})
	if e != api.OK {
		return i, e
	}
	return firstItem(n.Conduits, func(c api.WaterConduit) api.Errno {
		return first(conduitName(c.Name), checkConduit(c, len(n.Nodes)))
	})
}

// newNames returns the check of names that must differ from all those that it checked before.
func newNames() func(name string) api.Errno {
	used := map[string]bool{}
	return func(name string) api.Errno {
		e := first(unless(isName(name), api.ErrName), unless(!used[name], api.ErrExists))
		used[name] = true
		return e
	}
}

func isName(s string) bool {
	if s == "" || len(s) > api.MaxName || !isLetter(s[0]) {
		return false
	}
	for i := range len(s) {
		if c := s[i]; !isLetter(c) && !isDigit(c) && c != '-' {
			return false
		}
	}
	return true
}

func isLetter(c byte) bool {
	return 'a' <= c && c <= 'z' || 'A' <= c && c <= 'Z'
}

func isDigit(c byte) bool {
	return '0' <= c && c <= '9'
}

// checkNode returns the error of a node, apart from its name.
func checkNode(x api.WaterNode) api.Errno {
	if x.Lake {
		return first(
			unless(within(x.Head, 0, api.MaxWaterHead), api.ErrRange),
			unless(x.Draw == 0, api.ErrForm))
	}
	return first(
		unless(within(x.Draw, -api.MaxWaterDraw, api.MaxWaterDraw), api.ErrRange),
		unless(x.Head == 0, api.ErrForm))
}

// checkConduit returns the error of a conduit among a number of nodes, apart from its name.
func checkConduit(c api.WaterConduit, nodes int) api.Errno {
	return first(
		checkIndex(c.From, nodes),
		checkIndex(c.To, nodes),
		unless(c.From != c.To, api.ErrClash),
		checkResist(c.Resist, 0),
		unless(c.Valve || c.Open, api.ErrForm))
}

// checkIndex returns the error of the index of one of n items.
func checkIndex(i, n int) api.Errno {
	return unless(within(i, 0, n-1), api.ErrMissing)
}

// netOf checks a net.
func netOf(n api.WaterNet) (net, api.Errno) {
	_, e := CheckNet(n)
	return net{n}, e
}

// netWithWay checks a net, and then a way in it.
func netWithWay(n api.WaterNet, w api.WaterWay) (net, api.Errno) {
	c, e := netOf(n)
	return c, first(
		e,
		c.checkNodeIndex(w.From),
		c.checkNodeIndex(w.To),
		unless(w.From != w.To, api.ErrClash))
}

func (n net) checkNodeIndex(node int) api.Errno {
	return checkIndex(node, len(n.Nodes))
}

func (n net) checkConduitIndex(conduit int) api.Errno {
	return checkIndex(conduit, len(n.Conduits))
}

// with returns the net in which a valve is open or not.
func (n net) with(conduit int, open bool) net {
	n.Conduits = slices.Clone(n.Conduits)
	n.Conduits[conduit].Open = open
	return n
}

func (n net) lakes() []int {
	return indexes(len(n.Nodes), func(i int) bool { return n.Nodes[i].Lake })
}

// legFrom returns the leg of a conduit that begins at a node, if there is one.
func (n net) legFrom(node, conduit int) (leg, bool) {
	c := n.Conduits[conduit]
	if node == c.From {
		return leg{conduit: conduit, from: c.From, to: c.To}, true
	}
	return leg{conduit: conduit, from: c.To, to: c.From}, node == c.To
}

// sign returns 1 for a leg in the direction of its conduit, and -1 for one against it.
func (n net) sign(l leg) int {
	if l.from == n.Conduits[l.conduit].From {
		return 1
	}
	return -1
}

func (n net) isOpen(l leg) bool {
	return n.Conduits[l.conduit].Open
}
