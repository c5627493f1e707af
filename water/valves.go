package water

import "guidevane/api"

// supply is a net, and how many paths each of its conduits has in its direction, minus those against it.
type supply struct {
	net
	paths map[int]int
}

// CutOf returns the minimum cut between two nodes.
func CutOf(n api.WaterNet, w api.WaterWay) ([]int, api.Errno) {
	c, e := separable(n, w)
	if e != api.OK {
		return nil, e
	}
	return c.cut(w), api.OK
}

// PathsOf returns paths that are apart, as many as the minimum cut has conduits.
func PathsOf(n api.WaterNet, w api.WaterWay) ([][]int, api.Errno) {
	c, e := separable(n, w)
	if e != api.OK {
		return nil, e
	}
	s, number := c.supply(w)
	var paths [][]int
	for range number {
		paths = append(paths, s.take(w))
	}
	return paths, api.OK
}

// CheckPaths returns the number of paths that are apart, or the index of one that is not, and its error.
func CheckPaths(n api.WaterNet, w api.WaterWay, paths [][]int) (int, api.Errno) {
	c, e := netWithWay(n, w)
	if e := first(e, unless(len(paths) <= api.MaxWaterPaths, api.ErrLarge)); e != api.OK {
		return 0, e
	}
	used := map[int]bool{}
	i, e := firstItem(paths, func(path []int) api.Errno {
		if e := c.checkPath(w, path); e != api.OK {
			return e
		}
		return c.useValves(path, used)
	})
	if e != api.OK {
		return i, e
	}
	return len(paths), api.OK
}

// separable checks a net and a way that has a cut.
func separable(n api.WaterNet, w api.WaterWay) (net, api.Errno) {
	c, e := netWithWay(n, w)
	if e != api.OK {
		return c, e
	}
	_, joined := c.path(w, func(l leg) bool { return !c.Conduits[l.conduit].Valve })
	return c, unless(!joined, api.ErrNone)
}

// supply leads as many paths as possible from one node to another one: as many as the minimum cut has conduits.
func (n net) supply(w api.WaterWay) (supply, int) {
	s := supply{net: n, paths: map[int]int{}}
	for number := range len(n.Conduits) {
		path, ok := s.path(w, s.hasRoom)
		if !ok {
			return s, number
		}
		s.add(path, 1)
	}
	return s, len(n.Conduits)
}

// cut takes each conduit without which fewer valves separate both nodes. Since they are taken in ascending order, the cut is the lexicographically first one.
func (n net) cut(w api.WaterWay) []int {
	var cut []int
	_, left := n.supply(w)
	for i, c := range n.Conduits {
		if !c.Valve {
			continue
		}
		without := n.with(i, false)
		if _, number := without.supply(w); number < left {
			cut = append(cut, i)
			n, left = without, number
		}
	}
	return cut
}

// hasRoom tells whether one more path may use a leg. A path against it is taken back by that.
func (s supply) hasRoom(l leg) bool {
	return s.isOpen(l) && (!s.Conduits[l.conduit].Valve || s.along(l) < 1)
}

func (s supply) isUsed(l leg) bool {
	return s.along(l) > 0
}

// along returns how many paths use a leg, minus those against it.
func (s supply) along(l leg) int {
	return s.sign(l) * s.paths[l.conduit]
}

func (s supply) add(path []leg, number int) {
	for _, l := range path {
		s.paths[l.conduit] += s.sign(l) * number
	}
}

// take returns the conduits of one of the paths, which is no longer there then.
func (s supply) take(w api.WaterWay) []int {
	path, _ := s.path(w, s.isUsed)
	s.add(path, -1)
	conduits := make([]int, len(path))
	for i, l := range path {
		conduits[i] = l.conduit
	}
	return conduits
}

// checkPath returns the error of a path by itself.
func (n net) checkPath(w api.WaterWay, path []int) api.Errno {
	if len(path) == 0 {
		return api.ErrShape
	}
	at, used := w.From, map[int]bool{}
	_, e := firstItem(path, func(i int) api.Errno {
		if e := n.checkConduitIndex(i); e != api.OK {
			return e
		}
		l, continues := n.legFrom(at, i)
		e := first(
			unless(!used[i], api.ErrDouble),
			unless(n.isOpen(l), api.ErrBreak),
			unless(continues, api.ErrGap))
		at, used[i] = l.to, true
		return e
	})
	return first(e, unless(at == w.To, api.ErrGap))
}

// useValves returns ErrClash if a conduit of the path that has a valve was used before.
func (n net) useValves(path []int, used map[int]bool) api.Errno {
	_, e := firstItem(path, func(i int) api.Errno {
		if !n.Conduits[i].Valve {
			return api.OK
		}
		e := unless(!used[i], api.ErrClash)
		used[i] = true
		return e
	})
	return e
}
