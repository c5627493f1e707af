package machine_test

import (
	"slices"
	"testing"

	"guidevane/api"
	"guidevane/machine"
)

// P5.3, example 6, and the edge case of borders.
func TestLocationsOf(t *testing.T) {
	at := func(opening, power api.Frac) []api.MachineLocation {
		return []api.MachineLocation{{Opening: opening, Power: power}}
	}
	for _, c := range []struct {
		table      api.MachineTable
		head, flow int
		want       []api.MachineLocation
	}{
		{goodTable(), 100, 20, at(whole(15), whole(1250))},
		{goodTable(), 0, 0, at(whole(10), whole(0))}, {goodTable(), 100, 10, at(whole(10), whole(500))}, {goodTable(), 200, 40, at(whole(20), whole(6000))}, {goodTable(), 100, 30, at(whole(20), whole(2000))},
		{goodTable(), 50, 10, at(whole(15), whole(250))}, {goodTable(), 150, 12, at(whole(10), whole(1150))}, {goodTable(), 150, 35, at(whole(20), whole(4000))}, {goodTable(), 0, 4, at(whole(14), whole(0))},
		{goodTable(), 100, 15, at(part(25, 2), whole(875))}, {goodTable(), 60, 10, at(whole(14), whole(300))}, {goodTable(), 50, 7, at(whole(12), whole(250))}, {goodTable(), 50, 15, at(part(35, 2), whole(625))},
		{evenTable(), 5, 10, at(whole(20), part(5, 2))}, {evenTable(), 10, 10, at(whole(20), whole(5))},
		{roundTable(), 10, 0, []api.MachineLocation{{Opening: whole(0), Power: whole(15)}, {Opening: whole(0), Power: whole(19)}}},
		{roundTable(), 5, 0, []api.MachineLocation{{Opening: whole(10), Power: whole(11)}, {Opening: whole(10), Power: whole(15)}}},
		{roundTable(), -10, 0, at(whole(0), whole(3))},
		{roundTable(), 0, 7, []api.MachineLocation{{Opening: whole(6), Power: whole(8)}, {Opening: whole(6), Power: whole(12)}}},
		{roundTable(), 7, 3, []api.MachineLocation{{Opening: whole(0), Power: part(123, 10)}, {Opening: whole(0), Power: part(139, 10)}}},
	} {
		if l, e := machine.LocationsOf(c.table, c.head, c.flow); !slices.Equal(l, c.want) || e != api.OK {
			t.Error(c.head, c.flow, l, e, c.want)
		}
	}
	for _, p := range [][2]int{{100, 31}, {100, 9}, {0, -1}, {0, 11}, {-1, 5}, {201, 30}, {200, 13}, {200, 41}, {50, 4}, {1000, 1000}, {-1000, -1000}, {1000, -1000}} {
		if got := call(machine.LocationsOf(goodTable(), p[0], p[1])); !failed(got, api.ErrNone) {
			t.Error(p, got)
		}
	}
	for _, n := range outside(-1000, 1000) {
		for _, p := range [][2]int{{n, 20}, {100, n}, {n, n}} {
			if got := call(machine.LocationsOf(goodTable(), p[0], p[1])); !failed(got, api.ErrRange) {
				t.Error(p, got)
			}
		}
	}
}

// P5.3: locations as the model has them from equations.
func TestLocationsAgainstModel(t *testing.T) {
	r := random(12)
	count := map[api.Errno]int{}
	several := 0
	for range 10000 {
		x := someTable(r)
		b, _ := machine.BoundsOf(x)
		head, flow := between(r, b[0].Lo, b[0].Hi), between(r, b[1].Lo, b[1].Hi)
		if r.IntN(4) == 0 {
			p := chosen(r, chosen(r, x.Rows...).Points...)
			head, flow = p.Head, chosen(r, flow, p.Flow)
		}
		want, wantError := modelLocations(x, head, flow)
		l, e := machine.LocationsOf(x, head, flow)
		if !slices.Equal(l, want) || e != wantError {
			t.Fatal(x, head, flow, l, e, want, wantError)
		}
		if count[e]++; len(l) > 1 {
			several++
		}
	}
	if count[api.OK] < 1000 || count[api.ErrNone] < 1000 || count[api.ErrLarge] < 100 || several < 50 {
		t.Error(count, several)
	}
}

// P5.9: a whole head and flow of a curve's spot have a location with the curve's opening and the spot's power.
func TestThereAndBack(t *testing.T) {
	r := random(13)
	tested := 0
	for range 4000 {
		x := someTable(r)
		opening := randomOpening(r, x)
		spots, _ := machine.CurveAt(x, opening)
		p := chosen(r, chosen(r, x.Rows...).Points...)
		for _, line := range []api.MachineLine{{Head: 1, Value: p.Head}, {Flow: 1, Value: p.Flow}, randomLine(r, x)} {
			more, _ := machine.SpotsOn(x, opening, line)
			spots = append(spots, more...)
		}
		for _, s := range spots {
			if s.Head.Den != 1 || s.Flow.Den != 1 {
				continue
			}
			l, e := machine.LocationsOf(x, s.Head.Num, s.Flow.Num)
			if e != api.ErrLarge && !slices.Contains(l, api.MachineLocation{Opening: opening, Power: s.Power}) {
				t.Fatal(x, opening, s, l, e)
			}
			tested++
		}
	}
	if tested < 5000 {
		t.Error(tested)
	}
}

// P5.3, example 7.
func TestMostPower(t *testing.T) {
	for _, c := range []struct {
		table api.MachineTable
		head  int
		want  api.Frac
	}{
		{goodTable(), 100, whole(2000)}, {goodTable(), 0, whole(0)}, {goodTable(), 200, whole(6000)}, {goodTable(), 150, whole(4000)}, {goodTable(), 50, whole(1000)}, {goodTable(), 1, whole(20)},
		{evenTable(), 0, whole(7)}, {evenTable(), 10, whole(8)}, {evenTable(), 3, part(73, 10)},
		{sTable(), 100, whole(800)}, {sTable(), -60, whole(0)}, {sTable(), 160, whole(400)},
		{parsed(t, "0 :0,0,-5 :3,0,-7;1 :0,1,-6 :3,1,-9"), 1, part(-17, 3)}, {parsed(t, "0 :0,0,-5 :3,0,-7;1 :0,1,-6 :3,1,-9"), 0, whole(-5)},
	} {
		if f, e := machine.MostPower(c.table, c.head); f != c.want || e != api.OK {
			t.Error(c.head, f, e, c.want)
		}
	}
	for _, n := range []int{-1, 201, 300, 1000, -1000} {
		if got := call(machine.MostPower(goodTable(), n)); !failed(got, api.ErrNone) {
			t.Error(n, got)
		}
	}
	for _, n := range outside(-1000, 1000) {
		if got := call(machine.MostPower(goodTable(), n)); !failed(got, api.ErrRange) {
			t.Error(n, got)
		}
	}
}

// P5.3 and P5.10: the maximum power as the model has it, and no spot of a curve has more.
func TestMostPowerAgainstModel(t *testing.T) {
	r := random(14)
	none := 0
	for range 5000 {
		x := someTable(r)
		b, _ := machine.BoundsOf(x)
		head := chosen(r, max(b[0].Lo-1, -1000), min(b[0].Hi+1, 1000), b[0].Lo, b[0].Hi, between(r, b[0].Lo, b[0].Hi), between(r, b[0].Lo, b[0].Hi))
		want := modelMost(x, head)
		f, e := machine.MostPower(x, head)
		if want == nil {
			if none++; !failed(call(f, e), api.ErrNone) {
				t.Fatal(x, head, f, e)
			}
			continue
		}
		if rat(f).Cmp(want) != 0 || f != lowest(f.Num, f.Den) || e != api.OK {
			t.Fatal(x, head, f, e, want)
		}
		l, _ := machine.SpotsOn(x, randomOpening(r, x), api.MachineLine{Head: 1, Value: head})
		for _, s := range l {
			if rat(s.Power).Cmp(want) > 0 {
				t.Fatal(x, head, f, s)
			}
		}
	}
	if none < 500 {
		t.Error(none)
	}
}

// P5.4, example 7.
func TestBestFor(t *testing.T) {
	best := func(opening int, s api.MachineSpot) api.MachineBest {
		return api.MachineBest{Opening: opening, Spot: s}
	}
	// Each spot has the power 10 for a flow of 1, so that all efficiencies at a head are equal; rows go up and down in the flow.
	equal := parsed(t, "10 :80,0,0 :140,60,600 :80,120,1200;20 :70,10,100 :120,60,600 :70,110,1100")
	falling := parsed(t, "10 :70,110,1100 :120,60,600 :70,10,100;20 :80,120,1200 :140,60,600 :80,0,0")
	zero := parsed(t, "0 :100,-5,-50 :100,5,50;1 :90,-5,500 :90,5,500")
	for _, c := range []struct {
		table       api.MachineTable
		head, power int
		want        api.MachineBest
	}{
		{goodTable(), 100, 400, best(20, spot(100, 30, 2000))}, {goodTable(), 100, 2000, best(20, spot(100, 30, 2000))}, {goodTable(), 100, 1, best(20, spot(100, 30, 2000))},
		{goodTable(), 200, 1, best(20, spot(200, 40, 6000))}, {goodTable(), 50, 1, best(10, spotOfParts(whole(50), whole(5), whole(250)))}, {goodTable(), 50, 250, best(10, spot(50, 5, 250))}, {goodTable(), 50, 251, best(20, spot(50, 20, 1000))},
		{goodTable(), 150, 1151, best(20, spot(150, 35, 4000))}, {goodTable(), 1, 5, best(10, spotOfParts(whole(1), part(1, 10), whole(5)))}, {goodTable(), 1, 6, best(20, spotOfParts(whole(1), part(51, 5), whole(20)))},
		{equal, 100, 1, best(10, spot(100, 20, 200))}, {equal, 100, 200, best(10, spot(100, 20, 200))}, {equal, 100, 201, best(10, spot(100, 100, 1000))}, {equal, 100, 1000, best(10, spot(100, 100, 1000))},
		{equal, 75, 1, best(20, spot(75, 15, 150))}, {equal, 75, 151, best(20, spot(75, 105, 1050))}, {equal, 120, 401, best(10, spot(120, 80, 800))}, {equal, 140, 1, best(10, spot(140, 60, 600))},
		{falling, 100, 1, best(10, spot(100, 40, 400))}, {falling, 100, 401, best(10, spot(100, 80, 800))}, {falling, 100, 801, best(20, spot(100, 100, 1000))}, {falling, 130, 1, best(20, spot(130, 50, 500))},
		// Of a piece at this head its ends count alone: not the spots of small flows between them.
		{zero, 100, 1, best(0, spot(100, 5, 50))}, {zero, 90, 500, best(1, spot(90, 5, 500))},
	} {
		if b, e := machine.BestFor(c.table, c.head, c.power); b != c.want || e != api.OK {
			t.Error(c.head, c.power, b, e, c.want)
		}
	}
	turned, _ := machine.Turned(goodTable())
	for _, c := range []struct {
		table       api.MachineTable
		head, power int
	}{{goodTable(), 100, 2001}, {goodTable(), 201, 1}, {goodTable(), 1000, 10000}, {turned, 100, 1}, {equal, 100, 1001}, {equal, 141, 1}, {falling, 75, 1101}, {zero, 100, 51}, {parsed(t, "0 :0,-9,90 :100,-9,90;1 :0,0,90 :100,0,90"), 50, 1}} {
		if got := call(machine.BestFor(c.table, c.head, c.power)); !failed(got, api.ErrNone) {
			t.Error(c.head, c.power, got)
		}
	}
	for _, n := range append(outside(1, 1000), -100) {
		if got := call(machine.BestFor(goodTable(), n, 1)); !failed(got, api.ErrRange) {
			t.Error(n, got)
		}
	}
	for _, n := range append(outside(1, 10000), -100) {
		if got := call(machine.BestFor(goodTable(), 100, n)); !failed(got, api.ErrRange) {
			t.Error(n, got)
		}
	}
}

// P5.4: the best spot as the model has it.
func TestBestAgainstModel(t *testing.T) {
	r := random(15)
	count := map[api.Errno]int{}
	for range 10000 {
		x := someTable(r)
		b, _ := machine.BoundsOf(x)
		head, power := max(between(r, b[0].Lo, b[0].Hi), 1), chosen(r, 1, between(r, 1, max(b[2].Hi, 1)))
		if r.IntN(3) == 0 {
			p := chosen(r, chosen(r, x.Rows...).Points...)
			head, power = max(p.Head, 1), max(p.Power, 1)
		}
		want, wantError := modelBest(x, head, power)
		got, e := machine.BestFor(x, head, power)
		if got != want || e != wantError {
			t.Fatal(x, head, power, got, e, want, wantError)
		}
		count[e]++
	}
	if count[api.OK] < 1000 || count[api.ErrNone] < 1000 {
		t.Error(count)
	}
}
