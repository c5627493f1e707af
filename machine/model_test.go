package machine_test

import (
	"cmp"
	"math"
	"math/big"
	"math/rand/v2"
	"slices"

	"guidevane/api"
	"guidevane/machine"
)

// This file computes what the chapter defines once more, with fractions of any size: curves from where each triangle has the opening, the greatest power from all edges, locations from equations. Its tables are made at random, but the same ones in every run.

func random(seed uint64) *rand.Rand {
	return rand.New(rand.NewPCG(seed, 5))
}

func between(r *rand.Rand, lo, hi int) int {
	return lo + r.IntN(hi-lo+1)
}

func chosen[T any](r *rand.Rand, l ...T) T {
	return l[r.IntN(len(l))]
}

// scatter returns a table of points in a slanted grid, that may fold. The less they are scattered the more tables are without a fold.
func scatter(r *rand.Rand, rows, points int) api.MachineTable {
	scale, noise, powers := between(r, 1, 12), chosen(r, 0, 1, 3, 8, 12), chosen(r, 0, 3, 100, 1000, api.MaxMachinePower)
	along, across := [2]int{between(r, -4, 4), between(r, -4, 4)}, [2]int{between(r, -4, 4), between(r, -4, 4)}
	begin := [2]int{between(r, -40, 20), between(r, -40, 20)}
	at := func(place, row, point int) int {
		return begin[place] + scale*(point*along[place]+row*across[place]) + between(r, -noise, noise)
	}
	var t api.MachineTable
	opening := chosen(r, 0, between(r, 0, 40), api.MaxMachineOpening-api.MaxMachineStep*(rows-1))
	step := chosen(r, 1, 5, 10, api.MaxMachineStep)
	for i := range rows {
		row := api.MachineRow{Opening: max(opening, 0) + i*step}
		for k := range points {
			row.Points = append(row.Points, api.MachinePoint{Head: at(0, i, k), Flow: at(1, i, k), Power: between(r, -powers, powers)})
		}
		t.Rows = append(t.Rows, row)
	}
	return t
}

// randomTable returns a table without an error.
func randomTable(r *rand.Rand, rows, points int) api.MachineTable {
	for {
		if t := scatter(r, between(r, 2, rows), between(r, 2, points)); valid(t) {
			return t
		}
	}
}

// extremeTable returns a table without an error whose points are as far apart as they may be, or nearly so.
func extremeTable(r *rand.Rand) api.MachineTable {
	far := func(most int) int {
		return chosen(r, most, -most, most-r.IntN(9), r.IntN(9)-most, between(r, -most, most))
	}
	for {
		var t api.MachineTable
		opening, points := r.IntN(20), between(r, 2, 3)
		for range between(r, 2, 3) {
			row := api.MachineRow{Opening: opening}
			for range points {
				row.Points = append(row.Points, api.MachinePoint{Head: far(1000), Flow: far(1000), Power: far(10000)})
			}
			opening += chosen(r, 1, 7, 19, 20)
			t.Rows = append(t.Rows, row)
		}
		if valid(t) {
			return t
		}
	}
}

// windingTable returns a table without an error whose strip goes round, so that it may lie over its own beginning.
func windingTable(r *rand.Rand) api.MachineTable {
	for {
		var t api.MachineTable
		begin, turn, radius := float64(r.IntN(6)), chosen(r, 0.8, 1.05, 1.6, 2), float64(between(r, 30, 90))
		points := between(r, 4, 6)
		for i := range between(r, 2, 3) {
			row := api.MachineRow{Opening: 30 + 10*i}
			for k := range points {
				angle := begin + turn*float64(k)
				size := radius*math.Pow(0.6, float64(i)) + 3*r.Float64()
				row.Points = append(row.Points, api.MachinePoint{Head: int(size * math.Cos(angle)), Flow: int(size * math.Sin(angle)), Power: between(r, -20, 20)})
			}
			t.Rows = append(t.Rows, row)
		}
		if valid(t) {
			return t
		}
	}
}

// someTable is a table that is ordinary, and at times extreme or winding.
func someTable(r *rand.Rand) api.MachineTable {
	switch r.IntN(6) {
	case 0:
		return extremeTable(r)
	case 1:
		return windingTable(r)
	}
	return randomTable(r, 6, 6)
}

func valid(t api.MachineTable) bool {
	_, e := machine.CheckTable(t)
	return e == api.OK
}

// randomOpening returns an opening of a table, often that of a row.
func randomOpening(r *rand.Rand, t api.MachineTable) api.Frac {
	lo, hi := t.Rows[0].Opening, t.Rows[len(t.Rows)-1].Opening
	if r.IntN(3) == 0 {
		return whole(chosen(r, t.Rows...).Opening)
	}
	den := between(r, 1, api.MaxMachineDen)
	return lowest(between(r, lo*den, hi*den), den)
}

// randomLine returns a line that often passes through a point of a table, or two.
func randomLine(r *rand.Rand, t api.MachineTable) api.MachineLine {
	a, b := chosen(r, chosen(r, t.Rows...).Points...), chosen(r, chosen(r, t.Rows...).Points...)
	size := chosen(r, 1, 3, api.MaxMachineCoef)
	l := api.MachineLine{Head: between(r, -size, size), Flow: between(r, -size, size), Power: chosen(r, 0, between(r, -size, size))}
	switch r.IntN(4) {
	case 0:
		l = chosen(r, api.MachineLine{Head: 1}, api.MachineLine{Flow: 1}, api.MachineLine{Power: 1})
	case 1:
		l.Head, l.Flow, l.Power = max(min(b.Flow-a.Flow, 100), -100), max(min(a.Head-b.Head, 100), -100), 0
	}
	if l == (api.MachineLine{}) {
		l.Head = 1
	}
	l.Value = l.Head*a.Head + l.Flow*a.Flow + l.Power*a.Power
	if r.IntN(3) == 0 {
		l.Value += between(r, -50, 50)
	}
	l.Value = max(min(l.Value, api.MaxMachineValue), -api.MaxMachineValue)
	return l
}

func whole(n int) api.Frac {
	return api.Frac{Num: n, Den: 1}
}

func lowest(num, den int) api.Frac {
	f := big.NewRat(int64(num), int64(den))
	return api.Frac{Num: int(f.Num().Int64()), Den: int(f.Denom().Int64())}
}

func rat(f api.Frac) *big.Rat {
	return big.NewRat(int64(f.Num), int64(f.Den))
}

func ratOf(n int) *big.Rat {
	return new(big.Rat).SetInt64(int64(n))
}

func sum(l ...*big.Rat) *big.Rat {
	s := new(big.Rat)
	for _, x := range l {
		s.Add(s, x)
	}
	return s
}

func times(l ...*big.Rat) *big.Rat {
	p := ratOf(1)
	for _, x := range l {
		p.Mul(p, x)
	}
	return p
}

func less(a, b *big.Rat) *big.Rat {
	return new(big.Rat).Sub(a, b)
}

func over(a, b *big.Rat) *big.Rat {
	return new(big.Rat).Quo(a, b)
}

// fracOf returns a fraction as a result, and whether its parts are small enough.
func fracOf(x *big.Rat) (api.Frac, bool) {
	most := big.NewInt(api.MaxPart)
	if x.Num().CmpAbs(most) > 0 || x.Denom().Cmp(most) > 0 {
		return api.Frac{}, false
	}
	return api.Frac{Num: int(x.Num().Int64()), Den: int(x.Denom().Int64())}, true
}

// place is a head, a flow and a power of any size.
type place [3]*big.Rat

func placeOf(p api.MachinePoint) place {
	return place{ratOf(p.Head), ratOf(p.Flow), ratOf(p.Power)}
}

func placeOfSpot(s api.MachineSpot) place {
	return place{rat(s.Head), rat(s.Flow), rat(s.Power)}
}

func comparePlaces(a, b place) int {
	return cmp.Or(a[0].Cmp(b[0]), a[1].Cmp(b[1]), a[2].Cmp(b[2]))
}

func samePlaces(a, b place) bool {
	return comparePlaces(a, b) == 0
}

// onTheWay returns the place a part of the way from one place to another one.
func onTheWay(a, b place, part *big.Rat) place {
	var x place
	for i := range x {
		x[i] = sum(a[i], times(part, less(b[i], a[i])))
	}
	return x
}

func spotOf(x place) (api.MachineSpot, bool) {
	head, headOK := fracOf(x[0])
	flow, flowOK := fracOf(x[1])
	power, powerOK := fracOf(x[2])
	return api.MachineSpot{Head: head, Flow: flow, Power: power}, headOK && flowOK && powerOK
}

// spotsOf returns places as spots, or ErrLarge.
func spotsOf(l []place) ([]api.MachineSpot, api.Errno) {
	var spots []api.MachineSpot
	for _, x := range l {
		s, ok := spotOf(x)
		if !ok {
			return nil, api.ErrLarge
		}
		spots = append(spots, s)
	}
	return spots, api.OK
}

// edge is two points, and the opening of the first one.
type edge struct {
	a, b    api.MachinePoint
	opening int
}

// modelTriangles returns the edges of all triangles, with the index of the row before each.
func modelTriangles(t api.MachineTable) ([][3]edge, []int) {
	var l [][3]edge
	var rows []int
	for i := 0; i+1 < len(t.Rows); i++ {
		p, q := t.Rows[i], t.Rows[i+1]
		for k := 0; k+1 < len(p.Points); k++ {
			l = append(l,
				[3]edge{{p.Points[k], p.Points[k+1], p.Opening}, {p.Points[k+1], q.Points[k], p.Opening}, {q.Points[k], p.Points[k], q.Opening}},
				[3]edge{{p.Points[k+1], q.Points[k+1], p.Opening}, {q.Points[k+1], q.Points[k], q.Opening}, {q.Points[k], p.Points[k+1], q.Opening}})
			rows = append(rows, i, i)
		}
	}
	return l, rows
}

// modelArea returns the double area of a triangle by the areas below its edges.
func modelArea(x [3]edge) int {
	area := 0
	for _, y := range x {
		area += y.a.Head*y.b.Flow - y.b.Head*y.a.Flow
	}
	return area
}

// modelCurve returns the curve of an opening: where the edges between two rows have it, in the order in which the triangles follow one another.
func modelCurve(t api.MachineTable, opening api.Frac) []place {
	at := rat(opening)
	var l []place
	add := func(a, b api.MachinePoint, low, high int) {
		x := onTheWay(placeOf(a), placeOf(b), over(less(at, ratOf(low)), ratOf(high-low)))
		if len(l) == 0 || !samePlaces(l[len(l)-1], x) {
			l = append(l, x)
		}
	}
	for i := range len(t.Rows) - 1 {
		p, q := t.Rows[i], t.Rows[i+1]
		if at.Cmp(ratOf(p.Opening)) < 0 || at.Cmp(ratOf(q.Opening)) > 0 || len(l) > 0 {
			continue
		}
		for k := range p.Points {
			if k > 0 {
				add(p.Points[k], q.Points[k-1], p.Opening, q.Opening)
			}
			add(p.Points[k], q.Points[k], p.Opening, q.Opening)
		}
	}
	return l
}

// value returns the value of a place for a line.
func value(x place, l api.MachineLine) *big.Rat {
	return sum(times(ratOf(l.Head), x[0]), times(ratOf(l.Flow), x[1]), times(ratOf(l.Power), x[2]))
}

// modelOn returns the places of a polyline on a line, piece by piece, ordered, each once.
func modelOn(polyline []place, l api.MachineLine) []place {
	var found []place
	at := ratOf(l.Value)
	for i := range len(polyline) - 1 {
		a, b := polyline[i], polyline[i+1]
		va, vb := value(a, l), value(b, l)
		if va.Cmp(vb) == 0 {
			if va.Cmp(at) == 0 {
				found = append(found, a, b)
			}
			continue
		}
		part := over(less(at, va), less(vb, va))
		if part.Sign() >= 0 && part.Cmp(ratOf(1)) <= 0 {
			found = append(found, onTheWay(a, b, part))
		}
	}
	slices.SortFunc(found, comparePlaces)
	return slices.CompactFunc(found, samePlaces)
}

// modelMost returns the maximum power at a head on all edges, or nil.
func modelMost(t api.MachineTable, head int) *big.Rat {
	var most *big.Rat
	l, _ := modelTriangles(t)
	for _, x := range l {
		for _, y := range x {
			for _, z := range modelOn([]place{placeOf(y.a), placeOf(y.b)}, api.MachineLine{Head: 1, Value: head}) {
				if most == nil || z[2].Cmp(most) > 0 {
					most = z[2]
				}
			}
		}
	}
	return most
}

// modelLocations returns the openings and powers of a head and a flow, from the equations of each triangle: its first corner and parts of two edges.
func modelLocations(t api.MachineTable, head, flow int) ([]api.MachineLocation, api.Errno) {
	var found []place
	l, _ := modelTriangles(t)
	for _, x := range l {
		a, b, c := x[0].a, x[1].a, x[2].a
		det := ratOf((b.Head-a.Head)*(c.Flow-a.Flow) - (c.Head-a.Head)*(b.Flow-a.Flow))
		u := over(ratOf((head-a.Head)*(c.Flow-a.Flow)-(c.Head-a.Head)*(flow-a.Flow)), det)
		v := over(ratOf((b.Head-a.Head)*(flow-a.Flow)-(head-a.Head)*(b.Flow-a.Flow)), det)
		if u.Sign() < 0 || v.Sign() < 0 || sum(u, v).Cmp(ratOf(1)) > 0 {
			continue
		}
		opening := sum(ratOf(x[0].opening), times(u, ratOf(x[1].opening-x[0].opening)), times(v, ratOf(x[2].opening-x[0].opening)))
		power := sum(ratOf(a.Power), times(u, ratOf(b.Power-a.Power)), times(v, ratOf(c.Power-a.Power)))
		found = append(found, place{opening, power, ratOf(0)})
	}
	if len(found) == 0 {
		return nil, api.ErrNone
	}
	slices.SortFunc(found, comparePlaces)
	var locations []api.MachineLocation
	for _, x := range slices.CompactFunc(found, samePlaces) {
		s, ok := spotOf(x)
		if !ok {
			return nil, api.ErrLarge
		}
		locations = append(locations, api.MachineLocation{Opening: s.Head, Power: s.Flow})
	}
	return locations, api.OK
}

// modelBest looks at every row's own polyline of points.
func modelBest(t api.MachineTable, head, power int) (api.MachineBest, api.Errno) {
	var best place
	var most *big.Rat
	opening := 0
	for _, row := range t.Rows {
		var polyline []place
		for _, p := range row.Points {
			polyline = append(polyline, placeOf(p))
		}
		for _, x := range modelOn(polyline, api.MachineLine{Head: 1, Value: head}) {
			if x[1].Sign() <= 0 || x[2].Cmp(ratOf(power)) < 0 {
				continue
			}
			if efficiency := over(x[2], times(x[0], x[1])); most == nil || efficiency.Cmp(most) > 0 {
				best, most, opening = x, efficiency, row.Opening
			}
		}
	}
	if most == nil {
		return api.MachineBest{}, api.ErrNone
	}
	s, ok := spotOf(best)
	if !ok {
		return api.MachineBest{}, api.ErrLarge
	}
	return api.MachineBest{Opening: opening, Spot: s}, api.OK
}
