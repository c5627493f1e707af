package water_test

import (
	"math/rand/v2"
	"slices"
	"strconv"
	"testing"

	"guidevane/api"
	"guidevane/water"
)

// This file computes what the chapter defines once more, without shortcuts. Its nets are made at random, but the same ones in every run.

// The nets of the examples, and the first one with its valve closed.
const (
	exampleX = "up=100,j+3,down=0;a 0 1 100 n,b 1 2 200 o"
	closedX  = "up=100,j+3,down=0;a 0 1 100 n,b 1 2 200 c"
	exampleY = "s=0,t+0,u+0;p 0 1 0 c,q 1 2 0 n"
)

func random(seed uint64) *rand.Rand {
	return rand.New(rand.NewPCG(seed, 2))
}

func between(r *rand.Rand, lo, hi int) int {
	return lo + r.IntN(hi-lo+1)
}

func parsed(t *testing.T, s string) api.WaterNet {
	t.Helper()
	n, e := water.ParseNet(s)
	if e != api.OK {
		t.Fatal(s, e)
	}
	return n
}

func way(from, to int) api.WaterWay { return api.WaterWay{From: from, To: to} }

func copied(n api.WaterNet) api.WaterNet {
	return api.WaterNet{Nodes: slices.Clone(n.Nodes), Conduits: slices.Clone(n.Conduits)}
}

func withValve(n api.WaterNet, conduit int, open bool) api.WaterNet {
	n = copied(n)
	n.Conduits[conduit].Open = open
	return n
}

func withMore(n api.WaterNet, node, more int) api.WaterNet {
	n = copied(n)
	n.Nodes[node].Draw += more
	return n
}

func randomNodes(r *rand.Rand, most, head, draw int) []api.WaterNode {
	var l []api.WaterNode
	for i := range between(r, 2, most) {
		x := api.WaterNode{Name: "n" + strconv.Itoa(i)}
		if x.Lake = r.IntN(3) == 0; x.Lake {
			x.Head = r.IntN(head + 1)
		} else {
			x.Draw = between(r, -draw, draw)
		}
		l = append(l, x)
	}
	return l
}

// randomConduit joins both nodes in any direction, with or without a valve.
func randomConduit(r *rand.Rand, a, b, resist int) api.WaterConduit {
	if r.IntN(2) == 0 {
		a, b = b, a
	}
	c := api.WaterConduit{From: a, To: b, Resist: r.IntN(resist + 1), Open: true}
	if r.IntN(2) == 0 {
		c.Valve = true
	}
	return c
}

func named(r *rand.Rand, nodes []api.WaterNode, conduits []api.WaterConduit) api.WaterNet {
	r.Shuffle(len(conduits), func(i, k int) { conduits[i], conduits[k] = conduits[k], conduits[i] })
	for i := range conduits {
		conduits[i].Name = "c" + strconv.Itoa(i)
	}
	return api.WaterNet{Nodes: nodes, Conduits: conduits}
}

// randomNet has any form. Of its valves, one in so many is closed.
func randomNet(r *rand.Rand, mostNodes, closed int) api.WaterNet {
	nodes := randomNodes(r, mostNodes, 100, 10)
	var l []api.WaterConduit
	for range between(r, 1, api.MaxWaterConduits) {
		a := r.IntN(len(nodes))
		c := randomConduit(r, a, (a+between(r, 1, len(nodes)-1))%len(nodes), 10)
		if c.Valve && r.IntN(closed) == 0 {
			c.Open = false
		}
		l = append(l, c)
	}
	return named(r, nodes, l)
}

// randomCircuit has states: all its junctions come into the tree, and it may have a loop.
func randomCircuit(r *rand.Rand, head, draw, resist int) api.WaterNet {
	nodes := randomNodes(r, api.MaxWaterNodes, head, draw)
	nodes[0] = api.WaterNode{Name: "n0", Lake: true, Head: r.IntN(head + 1)}
	var l []api.WaterConduit
	for i, x := range nodes {
		if !x.Lake {
			l = append(l, randomConduit(r, i, r.IntN(i), resist))
		}
	}
	for open := r.IntN(4) > 0; len(l) < api.MaxWaterConduits && r.IntN(4) > 0 || len(l) == 0; open = false {
		a := r.IntN(len(nodes))
		c := randomConduit(r, a, (a+between(r, 1, len(nodes)-1))%len(nodes), resist)
		if c.Open = open; !open {
			c.Valve = true
		}
		l = append(l, c)
	}
	return named(r, nodes, l)
}

// modelJoined tells which nodes are joined by the conduits that may be used.
func modelJoined(n api.WaterNet, usable func(i int) bool) [][]bool {
	joined := make([][]bool, len(n.Nodes))
	for i := range joined {
		joined[i] = make([]bool, len(n.Nodes))
		joined[i][i] = true
	}
	for i, c := range n.Conduits {
		if usable(i) {
			joined[c.From][c.To], joined[c.To][c.From] = true, true
		}
	}
	for k := range joined {
		for i := range joined {
			for j := range joined {
				joined[i][j] = joined[i][j] || joined[i][k] && joined[k][j]
			}
		}
	}
	return joined
}

func modelReach(n api.WaterNet) [][]bool {
	return modelJoined(n, func(i int) bool { return n.Conduits[i].Open })
}

func modelWet(n api.WaterNet) []int {
	joined := modelReach(n)
	var wet []int
	for i, c := range n.Conduits {
		for k, x := range n.Nodes {
			if x.Lake && (joined[k][c.To] || c.Open && joined[k][c.From]) {
				wet = append(wet, i)
				break
			}
		}
	}
	return wet
}

func modelFilled(n api.WaterNet, conduit int) []int {
	before, after := modelWet(withValve(n, conduit, false)), modelWet(withValve(n, conduit, true))
	var filled []int
	for _, i := range after {
		if !slices.Contains(before, i) {
			filled = append(filled, i)
		}
	}
	return filled
}

// modelCut tries all sets of open valves.
func modelCut(n api.WaterNet, w api.WaterWay) ([]int, bool) {
	var best []int
	found := false
	for set := range 1 << len(n.Conduits) {
		var cut []int
		for i := range n.Conduits {
			if set>>i&1 == 1 {
				cut = append(cut, i)
			}
		}
		if slices.ContainsFunc(cut, func(i int) bool { return !n.Conduits[i].Valve || !n.Conduits[i].Open }) {
			continue
		}
		better := !found || len(cut) < len(best) || len(cut) == len(best) && slices.Compare(cut, best) < 0
		if better && !modelJoined(n, func(i int) bool { return n.Conduits[i].Open && set>>i&1 == 0 })[w.From][w.To] {
			best, found = cut, true
		}
	}
	return best, found
}

// modelTree returns the conduits of the tree, the conduit through which each junction came into it, and whether all did.
func modelTree(n api.WaterNet) ([]int, map[int]int, bool) {
	in := map[int]bool{}
	for i, x := range n.Nodes {
		if x.Lake {
			in[i] = true
		}
	}
	through := map[int]int{}
	var tree []int
	for i := 0; i < len(n.Conduits); i++ {
		c := n.Conduits[i]
		if !c.Open || in[c.From] && in[c.To] || !in[c.From] && !in[c.To] {
			continue
		}
		node := c.To
		if in[c.To] {
			node = c.From
		}
		in[node] = true
		through[node] = i
		tree = append(tree, i)
		i = -1 // from the smallest index again
	}
	slices.Sort(tree)
	return tree, through, len(in) == len(n.Nodes)
}

// modelClosing returns the open conduits that do not belong to the tree.
func modelClosing(n api.WaterNet) []int {
	tree, _, _ := modelTree(n)
	var l []int
	for i, c := range n.Conduits {
		if c.Open && !slices.Contains(tree, i) {
			l = append(l, i)
		}
	}
	return l
}

func modelLoss(resist, flow int) int {
	size := flow
	if size < 0 {
		size = -size
	}
	return resist * flow * size
}

// modelState leads the draw of each junction from a lake to it by itself, and goes the same way for its head.
func modelState(n api.WaterNet, circulation int) api.WaterState {
	_, through, _ := modelTree(n)
	n = copied(n)
	s := api.WaterState{Flows: make([]int, len(n.Conduits)), Heads: make([]int, len(n.Nodes))}
	for _, i := range modelClosing(n) {
		s.Flows[i] = circulation
		c := n.Conduits[i]
		if !n.Nodes[c.From].Lake {
			n.Nodes[c.From].Draw += circulation
		}
		if !n.Nodes[c.To].Lake {
			n.Nodes[c.To].Draw -= circulation
		}
	}
	for node, x := range n.Nodes {
		modelClimb(n, through, node, func(i, sign int) { s.Flows[i] += sign * x.Draw })
	}
	for node := range n.Nodes {
		head := 0
		lake := modelClimb(n, through, node, func(i, sign int) { head -= sign * modelLoss(n.Conduits[i].Resist, s.Flows[i]) })
		s.Heads[node] = head + 1000*n.Nodes[lake].Head
	}
	return s
}

// modelClimb goes from a node to a lake, and passes the conduits on its way with the sign of the direction away from the lake.
func modelClimb(n api.WaterNet, through map[int]int, node int, pass func(i, sign int)) int {
	for !n.Nodes[node].Lake {
		i := through[node]
		c := n.Conduits[i]
		if c.To == node {
			pass(i, 1)
			node = c.From
		} else {
			pass(i, -1)
			node = c.To
		}
	}
	return node
}

func modelGap(n api.WaterNet, circulation int) int {
	s := modelState(n, circulation)
	c := n.Conduits[modelClosing(n)[0]]
	return modelLoss(c.Resist, circulation) - (s.Heads[c.From] - s.Heads[c.To])
}

// modelCirculation halves the range of all circulations.
func modelCirculation(n api.WaterNet) (api.Range, api.Errno) {
	if len(modelClosing(n)) == 0 {
		return api.Range{}, api.OK
	}
	lo, hi := -api.MaxWaterFlow, api.MaxWaterFlow
	if modelGap(n, lo) == modelGap(n, hi) {
		return api.Range{}, api.ErrZero
	}
	for hi-lo > 1 {
		middle := (lo + hi) / 2
		switch gap := modelGap(n, middle); {
		case gap == 0:
			return api.Range{Lo: middle, Hi: middle}, api.OK
		case gap < 0:
			lo = middle
		default:
			hi = middle
		}
	}
	return api.Range{Lo: lo, Hi: hi}, api.OK
}

func modelSteady(n api.WaterNet) (api.WaterSteady, api.Errno) {
	r, e := modelCirculation(n)
	if e != api.OK {
		return api.WaterSteady{}, e
	}
	lo, hi := modelState(n, r.Lo), modelState(n, r.Hi)
	var s api.WaterSteady
	for i := range lo.Flows {
		s.Flows = append(s.Flows, sorted(lo.Flows[i], hi.Flows[i]))
	}
	for i := range lo.Heads {
		s.Heads = append(s.Heads, sorted(lo.Heads[i], hi.Heads[i]))
	}
	return s, api.OK
}

func sorted(a, b int) api.Range {
	if a > b {
		a, b = b, a
	}
	return api.Range{Lo: a, Hi: b}
}

func modelAnswer(n api.WaterNet, node, limit int) int {
	s, _ := modelSteady(n)
	if s.Heads[node].Lo >= limit {
		return api.AnswerYes
	}
	if s.Heads[node].Hi >= limit {
		return api.AnswerMaybe
	}
	return api.AnswerNo
}

// modelMost returns the greatest number for which the answer is yes, or -1.
func modelMost(n api.WaterNet, node, limit int) int {
	most := -1
	for more := 0; more <= 100; more++ {
		if modelAnswer(withMore(n, node, more), node, limit) == api.AnswerYes {
			most = more
		}
	}
	return most
}
