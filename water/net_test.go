package water_test

import (
	"math"
	"reflect"
	"slices"
	"strconv"
	"testing"

	"guidevane/api"
	"guidevane/water"
)

// changed returns the net of the first example with a change.
func changed(change func(n *api.WaterNet)) api.WaterNet {
	n := api.WaterNet{
		Nodes: []api.WaterNode{{Name: "up", Lake: true, Head: 100}, {Name: "j", Draw: 3}, {Name: "down", Lake: true}},
		Conduits: []api.WaterConduit{
			{Name: "a", From: 0, To: 1, Resist: 100, Open: true},
			{Name: "b", From: 1, To: 2, Resist: 200, Valve: true, Open: true},
		},
	}
	change(&n)
	return n
}

// sized returns a net with a number of nodes, and of conduits.
func sized(nodes, conduits int) api.WaterNet {
	var n api.WaterNet
	for i := range nodes {
		n.Nodes = append(n.Nodes, api.WaterNode{Name: "n" + strconv.Itoa(i), Lake: true})
	}
	for i := range conduits {
		n.Conduits = append(n.Conduits, api.WaterConduit{Name: "c" + strconv.Itoa(i), From: i % nodes, To: (i + 1) % nodes, Open: true})
	}
	return n
}

type badNet struct {
	name  string
	net   api.WaterNet
	index int
	want  api.Errno
}

// badNets returns a net for each error of CheckNet, and for each order of two errors.
func badNets() []badNet {
	edit := func(name string, index int, want api.Errno, change func(n *api.WaterNet)) badNet {
		return badNet{name, changed(change), index, want}
	}
	return []badNet{
		{"nothing", api.WaterNet{}, 0, api.ErrShape},
		edit("no nodes", 0, api.ErrShape, func(n *api.WaterNet) { n.Nodes = nil }),
		edit("no conduits", 0, api.ErrShape, func(n *api.WaterNet) { n.Conduits = nil }),
		edit("no conduits, and a bad node", 0, api.ErrShape, func(n *api.WaterNet) { n.Conduits, n.Nodes[1].Name = nil, "" }),
		{"11 nodes, no conduits", sized(11, 0), 0, api.ErrShape},
		{"11 nodes", sized(11, 2), 0, api.ErrLarge},
		{"15 conduits", sized(2, 15), 0, api.ErrLarge},
		{"many", sized(200, 300), 0, api.ErrLarge},
		{"one node", sized(1, 1), 0, api.ErrClash},
		edit("one node, and a conduit to another one", 0, api.ErrMissing, func(n *api.WaterNet) { n.Nodes = n.Nodes[:1] }),
		edit("15 conduits, and a bad node", 0, api.ErrLarge, func(n *api.WaterNet) { n.Conduits, n.Nodes[1].Name = sized(2, 15).Conduits, "" }),
		edit("node without a name", 1, api.ErrName, func(n *api.WaterNet) { n.Nodes[1].Name = "" }),
		edit("name too long", 2, api.ErrName, func(n *api.WaterNet) { n.Nodes[2].Name = "abcdefghijklm" }),
		edit("name that begins with a digit", 2, api.ErrName, func(n *api.WaterNet) { n.Nodes[2].Name = "1a" }),
		edit("name that begins with a hyphen", 2, api.ErrName, func(n *api.WaterNet) { n.Nodes[2].Name = "-a" }),
		edit("name with a blank", 2, api.ErrName, func(n *api.WaterNet) { n.Nodes[2].Name = "a b" }),
		edit("name with an underscore", 2, api.ErrName, func(n *api.WaterNet) { n.Nodes[2].Name = "a_" }),
		edit("name with a letter that is not of ASCII", 2, api.ErrName, func(n *api.WaterNet) { n.Nodes[2].Name = "a\u00e9" }),
		edit("name before the letters", 2, api.ErrName, func(n *api.WaterNet) { n.Nodes[2].Name = "@" }),
		edit("name after the letters", 2, api.ErrName, func(n *api.WaterNet) { n.Nodes[2].Name = "{" }),
		edit("name after the capital letters", 2, api.ErrName, func(n *api.WaterNet) { n.Nodes[2].Name = "[" }),
		edit("name before the small letters", 2, api.ErrName, func(n *api.WaterNet) { n.Nodes[2].Name = "`" }),
		edit("name with a character before the digits", 2, api.ErrName, func(n *api.WaterNet) { n.Nodes[2].Name = "a/" }),
		edit("name with a character after the digits", 2, api.ErrName, func(n *api.WaterNet) { n.Nodes[2].Name = "a:" }),
		edit("name with a zero byte", 2, api.ErrName, func(n *api.WaterNet) { n.Nodes[2].Name = "a\x00" }),
		edit("name twice", 2, api.ErrExists, func(n *api.WaterNet) { n.Nodes[2].Name = "up" }),
		edit("empty name twice", 0, api.ErrName, func(n *api.WaterNet) { n.Nodes[0].Name, n.Nodes[1].Name = "", "" }),
		edit("name before range", 1, api.ErrName, func(n *api.WaterNet) { n.Nodes[1] = api.WaterNode{Name: "+", Head: 1, Draw: 10001} }),
		edit("exists before range", 1, api.ErrExists, func(n *api.WaterNet) { n.Nodes[1] = api.WaterNode{Name: "up", Head: 1, Draw: 10001} }),
		edit("head too low", 0, api.ErrRange, func(n *api.WaterNet) { n.Nodes[0].Head = -1 }),
		edit("head too high", 0, api.ErrRange, func(n *api.WaterNet) { n.Nodes[0].Head = api.MaxWaterHead + 1 }),
		edit("least head", 0, api.ErrRange, func(n *api.WaterNet) { n.Nodes[0].Head = math.MinInt }),
		edit("greatest head", 0, api.ErrRange, func(n *api.WaterNet) { n.Nodes[0].Head = math.MaxInt }),
		edit("draw of a lake", 0, api.ErrForm, func(n *api.WaterNet) { n.Nodes[0].Draw = 1 }),
		edit("draw of a lake below 0", 2, api.ErrForm, func(n *api.WaterNet) { n.Nodes[2].Draw = -1 }),
		edit("head before draw", 0, api.ErrRange, func(n *api.WaterNet) { n.Nodes[0].Head, n.Nodes[0].Draw = -1, 1 }),
		edit("draw too great", 1, api.ErrRange, func(n *api.WaterNet) { n.Nodes[1].Draw = api.MaxWaterDraw + 1 }),
		edit("draw too small", 1, api.ErrRange, func(n *api.WaterNet) { n.Nodes[1].Draw = -api.MaxWaterDraw - 1 }),
		edit("least draw", 1, api.ErrRange, func(n *api.WaterNet) { n.Nodes[1].Draw = math.MinInt }),
		edit("greatest draw", 1, api.ErrRange, func(n *api.WaterNet) { n.Nodes[1].Draw = math.MaxInt }),
		edit("head of a junction", 1, api.ErrForm, func(n *api.WaterNet) { n.Nodes[1].Head = 1 }),
		edit("head of a junction below 0", 1, api.ErrForm, func(n *api.WaterNet) { n.Nodes[1].Head = -1 }),
		edit("draw before head", 1, api.ErrRange, func(n *api.WaterNet) { n.Nodes[1].Head, n.Nodes[1].Draw = -1, 10001 }),
		edit("node before the name of a later one", 0, api.ErrForm, func(n *api.WaterNet) { n.Nodes[0].Draw, n.Nodes[1].Name = 1, "" }),
		edit("node before conduit", 2, api.ErrForm, func(n *api.WaterNet) { n.Nodes[2].Draw, n.Conduits[0].Name = 1, "" }),
		edit("conduit without a name", 1, api.ErrName, func(n *api.WaterNet) { n.Conduits[1].Name = "" }),
		edit("conduit with a bad name", 0, api.ErrName, func(n *api.WaterNet) { n.Conduits[0].Name = "a," }),
		edit("name of a conduit twice", 1, api.ErrExists, func(n *api.WaterNet) { n.Conduits[1].Name = "a" }),
		edit("name before nodes", 1, api.ErrName, func(n *api.WaterNet) { n.Conduits[1] = api.WaterConduit{From: -1, To: 3, Resist: -1} }),
		edit("exists before nodes", 1, api.ErrExists, func(n *api.WaterNet) { n.Conduits[1] = api.WaterConduit{Name: "a", From: -1, To: 3, Resist: -1} }),
		edit("From too low", 0, api.ErrMissing, func(n *api.WaterNet) { n.Conduits[0].From = -1 }),
		edit("From too high", 0, api.ErrMissing, func(n *api.WaterNet) { n.Conduits[0].From = 3 }),
		edit("To too low", 1, api.ErrMissing, func(n *api.WaterNet) { n.Conduits[1].To = math.MinInt }),
		edit("To too high", 1, api.ErrMissing, func(n *api.WaterNet) { n.Conduits[1].To = math.MaxInt }),
		edit("both equal and missing", 1, api.ErrMissing, func(n *api.WaterNet) { n.Conduits[1].From, n.Conduits[1].To = 3, 3 }),
		edit("both equal", 1, api.ErrClash, func(n *api.WaterNet) { n.Conduits[1].To = 1 }),
		edit("equal before resist", 1, api.ErrClash, func(n *api.WaterNet) { n.Conduits[1].To, n.Conduits[1].Resist = 1, -1 }),
		edit("resist too low", 0, api.ErrRange, func(n *api.WaterNet) { n.Conduits[0].Resist = -1 }),
		edit("resist too high", 0, api.ErrRange, func(n *api.WaterNet) { n.Conduits[0].Resist = api.MaxWaterResist + 1 }),
		edit("least resist", 0, api.ErrRange, func(n *api.WaterNet) { n.Conduits[0].Resist = math.MinInt }),
		edit("greatest resist", 0, api.ErrRange, func(n *api.WaterNet) { n.Conduits[0].Resist = math.MaxInt }),
		edit("resist before valve", 0, api.ErrRange, func(n *api.WaterNet) { n.Conduits[0].Resist, n.Conduits[0].Open = -1, false }),
		edit("closed without a valve", 0, api.ErrForm, func(n *api.WaterNet) { n.Conduits[0].Open = false }),
		edit("conduit before the name of a later one", 0, api.ErrForm, func(n *api.WaterNet) { n.Conduits[0].Open, n.Conduits[1].Name = false, "" }),
	}
}

// P2.1.
func TestCheckNet(t *testing.T) {
	for _, c := range badNets() {
		if i, e := water.CheckNet(c.net); i != c.index || e != c.want {
			t.Error(c.name, i, e)
		}
	}
	good := []api.WaterNet{
		changed(func(n *api.WaterNet) {}),
		changed(func(n *api.WaterNet) { n.Nodes[0].Head, n.Nodes[1].Draw = api.MaxWaterHead, api.MaxWaterDraw }),
		changed(func(n *api.WaterNet) { n.Nodes[0].Head, n.Nodes[1].Draw = 0, -api.MaxWaterDraw }),
		changed(func(n *api.WaterNet) { n.Conduits[0].Resist, n.Conduits[1].Resist = api.MaxWaterResist, 0 }),
		changed(func(n *api.WaterNet) { n.Conduits[1].Open = false }),
		changed(func(n *api.WaterNet) { n.Conduits[0].Valve = true }),
		changed(func(n *api.WaterNet) { n.Nodes[0].Name, n.Conduits[0].Name = "aZ09-zA-----", "a" }),
		changed(func(n *api.WaterNet) { n.Nodes[0].Name, n.Nodes[1].Name, n.Nodes[2].Name = "z", "Z", "A" }),
		changed(func(n *api.WaterNet) { n.Nodes[0].Name, n.Conduits[0].Name = "j-", "j" }),
		sized(10, 14),
		sized(2, 1),
	}
	for _, n := range good {
		if i, e := water.CheckNet(n); i != 0 || e != api.OK {
			t.Error(n, i, e)
		}
	}
}

// calls is every function with a net as its argument. The other arguments are as wrong as possible.
func calls(n api.WaterNet) []any {
	bad := way(-1, -1)
	call := func(result any, e api.Errno) []any { return []any{result, e} }
	return []any{
		call(water.ReachedFrom(n, -1)), call(water.WetIn(n)), call(water.FilledBy(n, -1)),
		call(water.CutOf(n, bad)), call(water.PathsOf(n, bad)), call(water.CheckPaths(n, bad, make([][]int, 15))),
		call(water.TreeOf(n)), call(water.ClosingOf(n)), call(water.StateAt(n, math.MinInt)), call(water.GapAt(n, math.MinInt)),
		call(water.CirculationOf(n)), call(0, water.CheckCirculation(n, api.Range{Lo: 1, Hi: math.MinInt})), call(water.SteadyOf(n)),
		call(water.HeadAnswer(n, -1, -1)), call(water.MostDraw(n, -1, -1)),
	}
}

// P2.3 to P2.7: the error of the net comes first, and all else is zero.
func TestBadNets(t *testing.T) {
	for _, c := range badNets() {
		for i, got := range calls(c.net) {
			result, e := got.([]any)[0], got.([]any)[1]
			if e != c.want || !reflect.ValueOf(result).IsZero() {
				t.Error(c.name, i, result, e)
			}
		}
	}
}

// anyNumber is often at a limit, and sometimes far from any.
func anyNumber(pick func(n int) int) int {
	l := []int{math.MinInt, math.MinInt + 1, -200001, -200000, -10001, -10000, -2, -1, 0, 0, 1, 1, 2, 3, 10, 100, 1000, 1001, 10000, 10001, 200000, 200001, 1000000, 1000000000, 1000000001, math.MaxInt - 1, math.MaxInt}
	return l[pick(len(l))]
}

// R2: no call panics or goes on for ever, whatever its arguments are.
func TestAnyArguments(t *testing.T) {
	r := random(1)
	number := func() int { return anyNumber(r.IntN) }
	numbers := func() []int {
		l := make([]int, r.IntN(10))
		for i := range l {
			l[i] = number()
		}
		return l
	}
	for range 3000 {
		n := randomCircuit(r, 100, 10, 10)
		for range r.IntN(3) {
			x, c := &n.Nodes[r.IntN(len(n.Nodes))], &n.Conduits[r.IntN(len(n.Conduits))]
			switch r.IntN(5) {
			case 0:
				*x = api.WaterNode{Name: x.Name, Lake: r.IntN(2) == 0, Head: number(), Draw: number()}
			case 1:
				*c = api.WaterConduit{Name: c.Name, From: number(), To: number(), Resist: number(), Valve: r.IntN(2) == 0, Open: r.IntN(2) == 0}
			case 2:
				c.Resist = 0
			case 3:
				x.Lake = !x.Lake
			case 4:
				c.Valve, c.Open = true, !c.Open
			}
		}
		calls(n)
		w := way(number(), number())
		water.ReachedFrom(n, number())
		water.FilledBy(n, number())
		water.CutOf(n, w)
		water.PathsOf(n, w)
		water.CheckPaths(n, w, [][]int{numbers(), numbers()})
		water.StateAt(n, number())
		water.GapAt(n, number())
		water.CheckCirculation(n, api.Range{Lo: number(), Hi: number()})
		water.HeadAnswer(n, number(), number())
		water.MostDraw(n, number(), number())
		water.LossOf(number(), number())
		water.FlowThrough(number(), number())
		water.SerialOf(numbers())
		water.ParallelOf(numbers(), number())
		water.DropFor(numbers(), number())
		water.ParseNet(water.FormatNet(n))
	}
}

// R3 and R4: calls change no argument, and what is done with a result changes no later one.
func TestMemory(t *testing.T) {
	n := parsed(t, "s=50,t+1,u+2,v=7;a 0 1 3 o,b 1 2 4 o,c 2 3 5 o,d 0 3 9 c")
	given, resists, paths := copied(n), []int{1, 2}, [][]int{{0, 1, 2}}
	call := func() []any {
		reached, _ := water.ReachedFrom(n, 0)
		wet, _ := water.WetIn(n)
		filled, _ := water.FilledBy(withValve(n, 2, false), 0)
		cut, _ := water.CutOf(n, way(0, 3))
		ways, _ := water.PathsOf(n, way(0, 3))
		number, _ := water.CheckPaths(n, way(0, 3), paths)
		tree, _ := water.TreeOf(n)
		state, _ := water.StateAt(n, 1)
		steady, _ := water.SteadyOf(n)
		most, _ := water.MostDraw(n, 1, 20000)
		net, _ := water.ParseNet(exampleX)
		flow, _ := water.ParallelOf(resists, 1000)
		drop, _ := water.DropFor(resists, 100)
		return []any{reached, wet, filled, cut, ways, tree, state, steady, net, number, most, flow, drop, water.FormatNet(n)}
	}
	before, spoiled := call(), call()
	for _, l := range spoiled[:4] {
		clear(l.([]int))
	}
	clear(spoiled[4].([][]int)[0])
	clear(spoiled[5].([]int))
	clear(spoiled[6].(api.WaterState).Flows)
	clear(spoiled[6].(api.WaterState).Heads)
	clear(spoiled[7].(api.WaterSteady).Flows)
	clear(spoiled[7].(api.WaterSteady).Heads)
	clear(spoiled[8].(api.WaterNet).Nodes)
	clear(spoiled[8].(api.WaterNet).Conduits)
	if after := call(); !reflect.DeepEqual(before, after) {
		t.Error(before, after)
	}
	if !reflect.DeepEqual(n, given) || !slices.Equal(resists, []int{1, 2}) || !slices.Equal(paths[0], []int{0, 1, 2}) {
		t.Error("an argument was changed", n, resists, paths)
	}
}
