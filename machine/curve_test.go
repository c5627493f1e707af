package machine_test

import (
	"slices"
	"testing"

	"guidevane/api"
	"guidevane/machine"
)

// sTable is a table whose curves turn back in the head while the flow goes on: an S.
func sTable() api.MachineTable {
	return tableOf(
		rowOf(10, point(0, 0, 0), point(100, 10, 100), point(60, 60, 50), point(160, 80, 400)),
		rowOf(20, point(-60, 60, 0), point(40, 70, 100), point(0, 120, 60), point(100, 140, 800)))
}

// evenTable is a table whose rows have the same heads, the flows 0, 10 and 20, and powers.
func evenTable() api.MachineTable {
	return tableOf(
		rowOf(10, point(0, 0, 0), point(10, 0, 5)),
		rowOf(20, point(0, 10, 0), point(10, 10, 5)),
		rowOf(30, point(0, 20, 7), point(10, 20, 8)))
}

// roundTable is a table whose strip goes round and comes back over its own beginning, with other powers there.
func roundTable() api.MachineTable {
	return tableOf(
		rowOf(0, point(10, 0, 19), point(0, 10, 2), point(-10, 0, 3), point(0, -10, 4), point(10, 0, 15), point(0, 10, 6)),
		rowOf(10, point(5, 0, 11), point(0, 5, 12), point(-5, 0, 13), point(0, -5, 14), point(5, 0, 15), point(0, 5, 16)))
}

func part(num, den int) api.Frac {
	return api.Frac{Num: num, Den: den}
}

// spotOfParts returns a spot of any fractions.
func spotOfParts(head, flow, power api.Frac) api.MachineSpot {
	return api.MachineSpot{Head: head, Flow: flow, Power: power}
}

// P5.2, example 2, and the edge cases of rows.
func TestCurveAt(t *testing.T) {
	for _, c := range []struct {
		table   api.MachineTable
		opening api.Frac
		want    []api.MachineSpot
	}{
		{goodTable(), whole(15), []api.MachineSpot{spot(0, 5, 0), spot(50, 10, 250), spot(100, 20, 1250), spot(150, 22, 1900), spot(200, 27, 3900)}},
		{goodTable(), whole(10), []api.MachineSpot{spot(0, 0, 0), spot(100, 10, 500), spot(200, 14, 1800)}},
		{goodTable(), whole(20), []api.MachineSpot{spot(0, 10, 0), spot(100, 30, 2000), spot(200, 40, 6000)}},
		{goodTable(), part(101, 10), []api.MachineSpot{
			spotOfParts(whole(0), part(1, 10), whole(0)), spot(99, 10, 495), spotOfParts(whole(100), part(51, 5), whole(515)),
			spotOfParts(whole(199), part(354, 25), whole(1802)), spotOfParts(whole(200), part(713, 50), whole(1842))}},
		{evenTable(), whole(20), []api.MachineSpot{spot(0, 10, 0), spot(10, 10, 5)}},
		{evenTable(), whole(30), []api.MachineSpot{spot(0, 20, 7), spot(10, 20, 8)}},
		{evenTable(), whole(25), []api.MachineSpot{spotOfParts(whole(0), whole(15), part(7, 2)), spot(5, 15, 6), spotOfParts(whole(10), whole(15), part(13, 2))}},
		{evenTable(), part(61, 3), []api.MachineSpot{
			spotOfParts(whole(0), part(31, 3), part(7, 30)), spotOfParts(part(29, 3), part(31, 3), part(76, 15)), spotOfParts(whole(10), part(31, 3), part(51, 10))}},
		{parsed(t, "0 :-3,0,-1 :2,0,4;1 :0,5,2 :5,5,7"), part(1, 2), []api.MachineSpot{
			spotOfParts(part(-3, 2), part(5, 2), part(1, 2)), spotOfParts(whole(1), part(5, 2), whole(3)), spotOfParts(part(7, 2), part(5, 2), part(11, 2))}},
	} {
		if l, e := machine.CurveAt(c.table, c.opening); !slices.Equal(l, c.want) || e != api.OK {
			t.Error(c.opening, l, e, c.want)
		}
	}
}

// P5.2: curves as the model has them, those of the extreme tables too. No fraction of a curve has a part above the limit.
func TestCurvesAgainstModel(t *testing.T) {
	r := random(4)
	for range 5000 {
		x := someTable(r)
		opening := randomOpening(r, x)
		want, _ := spotsOf(modelCurve(x, opening))
		if l, e := machine.CurveAt(x, opening); len(want) == 0 || !slices.Equal(l, want) || e != api.OK {
			t.Fatal(x, opening, l, e, want)
		}
	}
}

// P5.2, with the edge cases of lines that touch, and of pieces on the line.
func TestSpotsOn(t *testing.T) {
	bent := parsed(t, "10 :0,0,0 :10,10,5 :20,0,-5 :30,0,-5;20 :0,20,0 :10,30,5 :20,20,-5 :30,20,-5")
	for _, c := range []struct {
		table   api.MachineTable
		opening int
		line    api.MachineLine
		want    []api.MachineSpot
	}{
		{goodTable(), 15, api.MachineLine{Flow: 1, Value: 15}, []api.MachineSpot{spot(75, 15, 750)}},
		{goodTable(), 15, api.MachineLine{Flow: -2, Value: -30}, []api.MachineSpot{spot(75, 15, 750)}},
		{goodTable(), 15, api.MachineLine{Head: 1, Value: 75}, []api.MachineSpot{spot(75, 15, 750)}},
		{goodTable(), 15, api.MachineLine{Head: 1, Value: 50}, []api.MachineSpot{spot(50, 10, 250)}},
		{goodTable(), 15, api.MachineLine{Head: 1, Value: 0}, []api.MachineSpot{spot(0, 5, 0)}},
		{goodTable(), 15, api.MachineLine{Head: 1, Value: 200}, []api.MachineSpot{spot(200, 27, 3900)}},
		{goodTable(), 15, api.MachineLine{Head: 1, Value: 201}, nil},
		{goodTable(), 15, api.MachineLine{Head: 1, Value: -1}, nil},
		{goodTable(), 15, api.MachineLine{Power: 1, Value: 2900}, []api.MachineSpot{spotOfParts(whole(175), part(49, 2), whole(2900))}},
		{goodTable(), 15, api.MachineLine{Head: 1, Flow: 1, Power: 1, Value: 310}, []api.MachineSpot{spot(50, 10, 250)}},
		// a curve of 10 that goes up, down, and on with the flow 0 and the power -5
		{bent, 10, api.MachineLine{Flow: 1, Value: 10}, []api.MachineSpot{spot(10, 10, 5)}},
		{bent, 10, api.MachineLine{Flow: 1, Value: 5}, []api.MachineSpot{spotOfParts(whole(5), whole(5), part(5, 2)), spot(15, 5, 0)}},
		{bent, 10, api.MachineLine{Flow: 1}, []api.MachineSpot{spot(0, 0, 0), spot(20, 0, -5), spot(30, 0, -5)}},
		{bent, 10, api.MachineLine{Power: 1, Value: -5}, []api.MachineSpot{spot(20, 0, -5), spot(30, 0, -5)}},
		{bent, 10, api.MachineLine{Power: 3}, []api.MachineSpot{spot(0, 0, 0), spot(15, 5, 0)}},
		{bent, 10, api.MachineLine{Head: 1, Flow: 1, Value: 20}, []api.MachineSpot{spot(10, 10, 5), spot(20, 0, -5)}},
		{bent, 10, api.MachineLine{Flow: 1, Value: 11}, nil},
		{bent, 10, api.MachineLine{Head: 100, Flow: -100}, []api.MachineSpot{spot(0, 0, 0), spot(10, 10, 5)}},
		{roundTable(), 0, api.MachineLine{Head: 1, Value: 10}, []api.MachineSpot{spot(10, 0, 15), spot(10, 0, 19)}},
		{roundTable(), 0, api.MachineLine{Flow: 1}, []api.MachineSpot{spot(-10, 0, 3), spot(10, 0, 15), spot(10, 0, 19)}},
		{roundTable(), 10, api.MachineLine{Head: 1}, []api.MachineSpot{spot(0, -5, 14), spot(0, 5, 12), spot(0, 5, 16)}},
		{bent, 20, api.MachineLine{Flow: 1, Value: 20}, []api.MachineSpot{spot(0, 20, 0), spot(20, 20, -5), spot(30, 20, -5)}},
		{bent, 10, api.MachineLine{Head: 100, Flow: 100, Power: 100, Value: 1000000}, nil},
		{bent, 10, api.MachineLine{Head: -100, Flow: -100, Power: -100, Value: -1000000}, nil},
	} {
		if l, e := machine.SpotsOn(c.table, whole(c.opening), c.line); !slices.Equal(l, c.want) || e != api.OK {
			t.Error(c.opening, c.line, l, e, c.want)
		}
	}
}

type badLine struct {
	line api.MachineLine
	want api.Errno
}

func badLines() []badLine {
	l := []badLine{{api.MachineLine{}, api.ErrZero}, {api.MachineLine{Value: 1}, api.ErrZero}, {api.MachineLine{Value: 1000000}, api.ErrZero}, {api.MachineLine{Value: -1000000}, api.ErrZero}}
	for _, n := range outside(-100, 100) {
		l = append(l,
			badLine{api.MachineLine{Head: n}, api.ErrRange}, badLine{api.MachineLine{Flow: n}, api.ErrRange}, badLine{api.MachineLine{Power: n}, api.ErrRange},
			badLine{api.MachineLine{Head: n, Flow: 1}, api.ErrRange}, badLine{api.MachineLine{Flow: n, Power: 1}, api.ErrRange}, badLine{api.MachineLine{Head: 1, Power: n}, api.ErrRange})
	}
	for _, n := range outside(-1000000, 1000000) {
		l = append(l, badLine{api.MachineLine{Value: n}, api.ErrRange}, badLine{api.MachineLine{Head: 1, Value: n}, api.ErrRange})
	}
	return l
}

// P5.2.
func TestBadLines(t *testing.T) {
	for _, c := range badLines() {
		if got := call(machine.SpotsOn(goodTable(), whole(15), c.line)); !failed(got, c.want) {
			t.Error(c, got)
		}
	}
}

// P5.2 and P5.7: the spots as the model has them piece by piece, each on the line and within the bounds.
func TestSpotsAgainstModel(t *testing.T) {
	r := random(5)
	several, large := 0, 0
	for range 10000 {
		x := someTable(r)
		opening, line := randomOpening(r, x), randomLine(r, x)
		want, wantError := spotsOf(modelOn(modelCurve(x, opening), line))
		l, e := machine.SpotsOn(x, opening, line)
		if !slices.Equal(l, want) || e != wantError {
			t.Fatal(x, opening, line, l, e, want, wantError)
		}
		b, _ := machine.BoundsOf(x)
		for _, s := range l {
			p := placeOfSpot(s)
			if value(p, line).Cmp(ratOf(line.Value)) != 0 {
				t.Fatal(x, opening, line, s)
			}
			for i, n := range p {
				if n.Cmp(ratOf(b[i].Lo)) < 0 || n.Cmp(ratOf(b[i].Hi)) > 0 {
					t.Fatal(x, opening, line, s, b)
				}
			}
		}
		if len(l) > 2 {
			several++
		}
		if e == api.ErrLarge {
			large++
		}
	}
	if several < 50 || large < 50 {
		t.Error(several, large)
	}
}

// P5.7: the curve of a row's opening has the row's points among its spots.
func TestRowsAreOnTheirCurves(t *testing.T) {
	r := random(6)
	for range 2000 {
		x := someTable(r)
		for _, row := range x.Rows {
			l, e := machine.CurveAt(x, whole(row.Opening))
			for _, p := range row.Points {
				if !slices.Contains(l, spot(p.Head, p.Flow, p.Power)) || e != api.OK {
					t.Fatal(x, row, l, e, p)
				}
			}
		}
	}
}

// P5.8: where two neighbouring spots of a curve lie on different sides of a line, there is a spot between them; and what crosses a line from one side to the other one does so an odd number of times.
func TestSidesOfLines(t *testing.T) {
	r := random(7)
	crossed := 0
	for range 5000 {
		x := someTable(r)
		opening, line := randomOpening(r, x), randomLine(r, x)
		curve, _ := machine.CurveAt(x, opening)
		l, e := machine.SpotsOn(x, opening, line)
		if e == api.ErrLarge {
			continue
		}
		side := func(s api.MachineSpot) int { return value(placeOfSpot(s), line).Cmp(ratOf(line.Value)) }
		crossings, touches := 0, side(curve[0]) == 0
		for i := 1; i < len(curve); i++ {
			a, b := curve[i-1], curve[i]
			touches = touches || side(b) == 0
			if side(a)*side(b) >= 0 {
				continue
			}
			crossings++
			if !slices.ContainsFunc(l, func(s api.MachineSpot) bool { return liesBetween(a, b, s) }) {
				t.Fatal(x, opening, line, a, b, l)
			}
		}
		if ends := side(curve[0]) * side(curve[len(curve)-1]); ends < 0 && (len(l) == 0 || !touches && crossings%2 == 0) || ends > 0 && !touches && crossings%2 == 1 {
			t.Fatal(x, opening, line, l, crossings)
		}
		if !touches && len(l) > crossings {
			t.Fatal(x, opening, line, l, crossings)
		}
		crossed += crossings
	}
	if crossed < 500 {
		t.Error(crossed)
	}
}

// liesBetween tells whether a spot lies between two others, in all three numbers at the same part of the way.
func liesBetween(a, b, s api.MachineSpot) bool {
	from, to, at := placeOfSpot(a), placeOfSpot(b), placeOfSpot(s)
	for i := range from {
		if d := less(to[i], from[i]); d.Sign() != 0 {
			p := over(less(at[i], from[i]), d)
			return p.Sign() >= 0 && p.Cmp(ratOf(1)) <= 0 && samePlaces(onTheWay(from, to, p), at)
		}
	}
	return false
}

// P5.2, example 3, and the edge cases of heads: the S, a touch, and a head beyond all.
func TestFlowsAt(t *testing.T) {
	for _, c := range []struct {
		table   api.MachineTable
		opening int
		head    int
		want    []api.Frac
	}{
		{goodTable(), 15, 100, []api.Frac{whole(20)}}, {goodTable(), 15, 50, []api.Frac{whole(10)}}, {goodTable(), 15, 75, []api.Frac{whole(15)}}, {goodTable(), 15, 201, nil}, {goodTable(), 15, -1, nil},
		{goodTable(), 15, 0, []api.Frac{whole(5)}}, {goodTable(), 15, 200, []api.Frac{whole(27)}}, {goodTable(), 15, 1000, nil}, {goodTable(), 15, -1000, nil}, {goodTable(), 15, 1, []api.Frac{part(51, 10)}},
		{sTable(), 10, 80, []api.Frac{whole(8), whole(35), whole(64)}}, {sTable(), 10, 100, []api.Frac{whole(10), whole(68)}}, {sTable(), 10, 60, []api.Frac{whole(6), whole(60)}}, {sTable(), 10, 59, []api.Frac{part(59, 10)}}, {sTable(), 10, 101, []api.Frac{part(341, 5)}},
		{sTable(), 20, 20, []api.Frac{whole(68), whole(95), whole(124)}}, {sTable(), 20, 160, nil}, {sTable(), 10, 160, []api.Frac{whole(80)}},
		// a curve that lies on the head, and one that has two spots of one flow there, with two powers
		{parsed(t, "10 :0,0,0 :0,9,5 :0,19,7;20 :-5,0,0 :-5,9,5 :-5,19,7"), 10, 0, []api.Frac{whole(0), whole(9), whole(19)}},
		{roundTable(), 0, 10, []api.Frac{whole(0)}}, {roundTable(), 0, 0, []api.Frac{whole(-10), whole(10)}},
	} {
		if l, e := machine.FlowsAt(c.table, whole(c.opening), c.head); !slices.Equal(l, c.want) || e != api.OK {
			t.Error(c.opening, c.head, l, e, c.want)
		}
	}
	for _, n := range outside(-1000, 1000) {
		if got := call(machine.FlowsAt(goodTable(), whole(15), n)); !failed(got, api.ErrRange) {
			t.Error(n, got)
		}
	}
}

// modelFlows returns the flows at a head, ascending, each once.
func modelFlows(x api.MachineTable, opening api.Frac, head int) ([]api.Frac, api.Errno) {
	var flows []api.Frac
	for _, p := range modelOn(modelCurve(x, opening), api.MachineLine{Head: 1, Value: head}) {
		f, ok := fracOf(p[1])
		if !ok {
			return nil, api.ErrLarge
		}
		flows = append(flows, f)
	}
	slices.SortFunc(flows, func(a, b api.Frac) int { return rat(a).Cmp(rat(b)) })
	return slices.Compact(flows), api.OK
}

// P5.2: the flows as the model has them. Spots whose powers alone are too large have flows nonetheless; the parts of no flow are too large, as its denominator divides 200 times a difference of two heads.
func TestFlowsAgainstModel(t *testing.T) {
	r := random(8)
	threes, alone := 0, 0
	for range 8000 {
		x := someTable(r)
		opening := randomOpening(r, x)
		b, _ := machine.BoundsOf(x)
		head := max(min(between(r, b[0].Lo-1, b[0].Hi+1), 1000), -1000)
		want, wantError := modelFlows(x, opening, head)
		l, e := machine.FlowsAt(x, opening, head)
		if !slices.Equal(l, want) || e != wantError {
			t.Fatal(x, opening, head, l, e, want, wantError)
		}
		_, all := machine.SpotsOn(x, opening, api.MachineLine{Head: 1, Value: head})
		if all == api.ErrLarge {
			alone++
		}
		if len(l) > 2 {
			threes++
		}
	}
	if threes < 10 || alone < 10 {
		t.Error(threes, alone)
	}
}

// P5.3, example 4.
func TestOperatingPoints(t *testing.T) {
	for _, c := range []struct {
		table   api.MachineTable
		opening int
		water   api.MachineWater
		want    []api.MachineSpot
	}{
		{goodTable(), 15, api.MachineWater{Static: 150, Slope: 10, Machines: 1}, []api.MachineSpot{spotOfParts(part(37100, 251), part(5500, 251), part(469750, 251))}},
		{goodTable(), 15, api.MachineWater{Static: 150, Machines: 1}, []api.MachineSpot{spot(150, 22, 1900)}},
		{goodTable(), 15, api.MachineWater{Static: 150, Machines: 5}, []api.MachineSpot{spot(150, 22, 1900)}},
		{goodTable(), 15, api.MachineWater{Static: 104, Slope: 20, Machines: 1}, []api.MachineSpot{spot(100, 20, 1250)}},
		{goodTable(), 15, api.MachineWater{Static: 120, Slope: 20, Machines: 5}, []api.MachineSpot{spot(100, 20, 1250)}},
		{goodTable(), 15, api.MachineWater{Static: -1000, Slope: 20, Machines: 5}, nil},
		{goodTable(), 15, api.MachineWater{Static: 1000, Slope: 20, Machines: 5}, nil},
		{sTable(), 10, api.MachineWater{Static: 80, Machines: 1}, []api.MachineSpot{spot(80, 8, 80), spot(80, 35, 75), spot(80, 64, 120)}},
	} {
		if l, e := machine.OperatingPoints(c.table, whole(c.opening), c.water); !slices.Equal(l, c.want) || e != api.OK {
			t.Error(c.opening, c.water, l, e, c.want)
		}
	}
	for what, l := range map[string][]int{"static": outside(-1000, 1000), "slope": outside(0, 20), "machines": outside(1, 5)} {
		for _, n := range l {
			w := api.MachineWater{Static: 150, Slope: 10, Machines: 1}
			*map[string]*int{"static": &w.Static, "slope": &w.Slope, "machines": &w.Machines}[what] = n
			if got := call(machine.OperatingPoints(goodTable(), whole(15), w)); !failed(got, api.ErrRange) {
				t.Error(w, got)
			}
		}
	}
}

// P5.3: the operating points as the model has them, from heads that the waterway leaves.
func TestOperationAgainstModel(t *testing.T) {
	r := random(9)
	found, large := 0, 0
	for range 5000 {
		x := someTable(r)
		opening, p := randomOpening(r, x), chosen(r, chosen(r, x.Rows...).Points...)
		w := api.MachineWater{Static: max(min(p.Head+between(r, -5, 5), 1000), -1000), Slope: between(r, 0, 20), Machines: between(r, 1, 5)}
		want, wantError := spotsOf(modelOn(modelCurve(x, opening), api.MachineLine{Head: 100, Flow: w.Slope * w.Machines, Value: 100 * w.Static}))
		l, e := machine.OperatingPoints(x, opening, w)
		if !slices.Equal(l, want) || e != wantError {
			t.Fatal(x, opening, w, l, e, want, wantError)
		}
		for _, s := range l {
			lost := over(times(ratOf(w.Slope), ratOf(w.Machines), rat(s.Flow)), ratOf(100))
			if rat(s.Head).Cmp(less(ratOf(w.Static), lost)) != 0 {
				t.Fatal(x, opening, w, s)
			}
			found++
		}
		if e == api.ErrLarge {
			large++
		}
	}
	if found < 1000 || large < 20 {
		t.Error(found, large)
	}
}

// P5.11.
func TestWaterways(t *testing.T) {
	r := random(10)
	found := 0
	for range 3000 {
		x := someTable(r)
		opening, static := randomOpening(r, x), chosen(r, chosen(r, x.Rows...).Points...).Head
		machines := between(r, 1, 5)
		still, e := machine.OperatingPoints(x, opening, api.MachineWater{Static: static, Machines: machines})
		at, atError := machine.SpotsOn(x, opening, api.MachineLine{Head: 1, Value: static})
		if !slices.Equal(still, at) || e != atError {
			t.Fatal(x, opening, static, still, e, at, atError)
		}
		slope := r.IntN(20/machines + 1)
		several, e := machine.OperatingPoints(x, opening, api.MachineWater{Static: static, Slope: slope, Machines: machines})
		single, singleError := machine.OperatingPoints(x, opening, api.MachineWater{Static: static, Slope: slope * machines, Machines: 1})
		if !slices.Equal(several, single) || e != singleError {
			t.Fatal(x, opening, static, slope, machines, several, single)
		}
		found += len(still) + len(several)
	}
	if found < 2000 {
		t.Error(found)
	}
}

// P5.3, example 5.
func TestRunawayOf(t *testing.T) {
	for _, c := range []struct {
		table   api.MachineTable
		opening api.Frac
		want    []api.MachineSpot
	}{
		{goodTable(), whole(15), []api.MachineSpot{spot(0, 5, 0)}},
		{goodTable(), whole(10), []api.MachineSpot{spot(0, 0, 0)}},
		{parsed(t, "10 :0,0,-5 :10,0,5;20 :0,10,1 :10,10,5"), whole(10), []api.MachineSpot{spot(5, 0, 0)}},
		{parsed(t, "10 :0,0,-5 :10,0,5;20 :0,10,1 :10,10,5"), whole(20), nil},
		{parsed(t, "10 :0,0,-5 :10,0,5;20 :0,10,1 :10,10,5"), part(35, 2), []api.MachineSpot{spotOfParts(part(1, 2), part(15, 2), whole(0))}},
		{parsed(t, "10 :0,0,0 :10,0,0 :20,0,7;20 :0,10,0 :10,10,0 :20,10,-7"), whole(15), []api.MachineSpot{spot(0, 5, 0), spot(5, 5, 0), spot(10, 5, 0), spot(20, 5, 0)}},
		{parsed(t, "10 :0,0,4 :10,0,-4 :20,0,4;20 :0,10,3 :10,10,2 :20,10,1"), whole(10), []api.MachineSpot{spot(5, 0, 0), spot(15, 0, 0)}},
	} {
		if l, e := machine.RunawayOf(c.table, c.opening); !slices.Equal(l, c.want) || e != api.OK {
			t.Error(c.opening, l, e, c.want)
		}
	}
	r := random(11)
	found, large := 0, 0
	for range 5000 {
		x := someTable(r)
		opening := randomOpening(r, x)
		want, wantError := spotsOf(modelOn(modelCurve(x, opening), api.MachineLine{Power: 1}))
		l, e := machine.RunawayOf(x, opening)
		if !slices.Equal(l, want) || e != wantError || slices.ContainsFunc(l, func(s api.MachineSpot) bool { return s.Power != whole(0) }) {
			t.Fatal(x, opening, l, e, want, wantError)
		}
		found += len(l)
		if e == api.ErrLarge {
			large++
		}
	}
	if found < 1000 || large < 5 {
		t.Error(found, large)
	}
}
