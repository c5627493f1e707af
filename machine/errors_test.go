package machine_test

import (
	"math"
	"reflect"
	"slices"
	"testing"

	"guidevane/api"
	"guidevane/machine"
)

// example is the string of the table of the examples.
const example = "10 :0,0,0 :100,10,500 :200,14,1800;20 :0,10,0 :100,30,2000 :200,40,6000"

func tableOf(rows ...api.MachineRow) api.MachineTable {
	return api.MachineTable{Rows: rows}
}

func rowOf(opening int, points ...api.MachinePoint) api.MachineRow {
	return api.MachineRow{Opening: opening, Points: points}
}

func point(head, flow, power int) api.MachinePoint {
	return api.MachinePoint{Head: head, Flow: flow, Power: power}
}

func spot(head, flow, power int) api.MachineSpot {
	return api.MachineSpot{Head: whole(head), Flow: whole(flow), Power: whole(power)}
}

// goodTable is the table of the examples.
func goodTable() api.MachineTable {
	return tableOf(
		rowOf(10, point(0, 0, 0), point(100, 10, 500), point(200, 14, 1800)),
		rowOf(20, point(0, 10, 0), point(100, 30, 2000), point(200, 40, 6000)))
}

// grid is a table without an error, whose rows have the same heads.
func grid(rows, points int) api.MachineTable {
	var t api.MachineTable
	for i := range rows {
		row := api.MachineRow{Opening: 20 * i}
		for k := range points {
			row.Points = append(row.Points, point(10*k, 10*i, 0))
		}
		t.Rows = append(t.Rows, row)
	}
	return t
}

func parsed(t *testing.T, s string) api.MachineTable {
	t.Helper()
	x, e := machine.ParseTable(s)
	if e != api.OK {
		t.Fatal(s, e)
	}
	return x
}

// outside returns numbers that do not lie in a range.
func outside(lo, hi int) []int {
	return []int{lo - 1, hi + 1, lo - 1000, hi + 1000, math.MinInt, math.MinInt + 1, math.MaxInt}
}

type badTable struct {
	table api.MachineTable
	row   int
	want  api.Errno
}

// badTables returns tables for each error of CheckTable, and for each order of two errors.
func badTables() []badTable {
	l := []badTable{
		{tableOf(), 0, api.ErrShape}, {api.MachineTable{Rows: []api.MachineRow{}}, 0, api.ErrShape}, {grid(1, 3), 0, api.ErrShape}, {tableOf(rowOf(-1)), 0, api.ErrShape},
		{grid(7, 3), 0, api.ErrLarge}, {tableOf(make([]api.MachineRow, 7)...), 0, api.ErrLarge}, {tableOf(make([]api.MachineRow, 2)...), 0, api.ErrShape}, {grid(20, 1), 0, api.ErrLarge},
		{grid(2, 7), 0, api.ErrLarge}, {grid(2, 1), 0, api.ErrShape}, {grid(2, 0), 0, api.ErrShape}, {grid(6, 30), 0, api.ErrLarge},
	}
	add := func(row int, want api.Errno, changes ...func(rows []api.MachineRow)) {
		x := grid(4, 3)
		for _, change := range changes {
			change(x.Rows)
		}
		l = append(l, badTable{x, row, want})
	}
	for i := range 4 {
		opening := func(n int) func(rows []api.MachineRow) { return func(rows []api.MachineRow) { rows[i].Opening = n } }
		points := func(n int) func(rows []api.MachineRow) {
			return func(rows []api.MachineRow) { rows[i].Points = make([]api.MachinePoint, n) }
		}
		at := func(k int, p api.MachinePoint) func(rows []api.MachineRow) {
			return func(rows []api.MachineRow) { rows[i].Points[k] = p }
		}
		later := func(rows []api.MachineRow) {
			for _, row := range rows[i+1:] {
				row.Points[0].Head = math.MinInt
			}
		}
		for _, n := range outside(0, 100) {
			add(i, api.ErrRange, opening(n))
			add(i, api.ErrRange, opening(n), later)
			add(i, api.ErrRange, opening(n), points(1))
			add(i, api.ErrRange, opening(n), points(7))
		}
		shape := i
		if i == 0 {
			shape = 1
		}
		add(i, api.ErrShape, points(1), later)
		add(i, api.ErrShape, points(0), later)
		add(shape, api.ErrShape, points(2))
		add(shape, api.ErrShape, points(4))
		if i > 0 {
			add(i, api.ErrShape, points(7), later)
			add(i, api.ErrShape, points(4), at(0, point(1001, 0, 0)), opening(0))
			add(i, api.ErrRange, opening(0), at(2, point(0, 1001, 0)))
			add(i, api.ErrRange, opening(100), at(2, point(0, 0, 10001)))
			for n := range 20 {
				add(i, api.ErrOrder, opening(20*i-20-n*(i-1)), later)
				add(i, api.ErrBreak, opening(20*i+1+n*(4-i)), later)
			}
		}
		for k := range 3 {
			for _, n := range outside(-1000, 1000) {
				add(i, api.ErrRange, at(k, point(n, 0, 0)), later)
				add(i, api.ErrRange, at(k, point(0, n, 0)), later)
			}
			for _, n := range outside(-10000, 10000) {
				add(i, api.ErrRange, at(k, point(0, 0, n)), later)
			}
		}
	}
	add(0, api.ErrLarge, func(rows []api.MachineRow) { rows[0].Points = make([]api.MachinePoint, 7) })
	add(0, api.ErrLarge, func(rows []api.MachineRow) { rows[0].Points = slices.Repeat([]api.MachinePoint{point(1001, 0, 0)}, 7) })
	return append(l, foldedTables()...)
}

// foldedTables returns tables that fold.
func foldedTables() []badTable {
	var l []badTable
	add := func(row int, changes ...func(rows []api.MachineRow)) {
		x := grid(4, 3)
		for _, change := range changes {
			change(x.Rows)
		}
		l = append(l, badTable{x, row, api.ErrClash})
	}
	at := func(row, k, head, flow int) func(rows []api.MachineRow) {
		return func(rows []api.MachineRow) { rows[row].Points[k] = point(head, flow, 7) }
	}
	// The grid has the heads 0, 10, 20, and the flows 0, 10, 20, 30 of the rows.
	add(0, at(0, 0, 10, 0))                // no area of the first triangle, by its edge
	add(0, at(0, 0, 5, 5))                 // no area of the first triangle, by its middle
	add(0, at(0, 0, 6, 6))                 // below 0
	add(0, at(0, 2, 10, 10))               // no area of the last triangles of the first two rows
	add(0, at(1, 2, 15, 5))                // a second triangle without area
	add(0, at(1, 2, 14, 5))                // a second triangle below 0
	add(0, at(1, 0, 0, 0))                 // two rows that meet
	add(0, at(1, 1, 15, -1))               // both sides of a row
	add(1, at(2, 0, 5, 10))                // no area between the second rows
	add(1, at(2, 2, 15, 15))               // a last point without an area
	add(1, at(1, 0, 0, 20))                // a row that the next one passes at its first point
	add(2, at(3, 1, 10, 15))               // the last rows
	add(2, at(3, 2, 15, 25))               // the last triangle, without an area
	add(2, at(3, 2, 0, 0))                 // the last triangle, below 0
	add(2, at(3, 0, 0, 20))                // no area between the last rows
	add(1, at(2, 0, 0, 5), at(3, 0, 0, 0)) // the first one of two
	for i := range 3 {
		add(i, func(rows []api.MachineRow) { rows[i+1].Points = slices.Clone(rows[i].Points) })
	}
	turned := grid(4, 3)
	slices.Reverse(turned.Rows[0].Points)
	backward := goodTable()
	for i := range backward.Rows {
		slices.Reverse(backward.Rows[i].Points)
	}
	flat := tableOf(rowOf(0, point(0, 0, 0), point(1, 1, 1)), rowOf(1, point(2, 2, 2), point(3, 3, 3)))
	return append(l, badTable{turned, 0, api.ErrClash}, badTable{backward, 0, api.ErrClash}, badTable{flat, 0, api.ErrClash})
}

// P5.1.
func TestCheckTable(t *testing.T) {
	for _, c := range badTables() {
		if row, e := machine.CheckTable(c.table); row != c.row || e != c.want {
			t.Error(c, row, e)
		}
	}
	for _, x := range []api.MachineTable{
		goodTable(), grid(2, 2), grid(6, 6), grid(6, 2), grid(2, 6),
		tableOf(rowOf(0, point(-1000, -1000, -10000), point(1000, -1000, 10000)), rowOf(20, point(-1000, 1000, 10000), point(1000, 1000, -10000))),
		tableOf(rowOf(99, point(0, 0, 0), point(1, 0, 0)), rowOf(100, point(0, 1, 0), point(1, 1, 0))),
		tableOf(rowOf(80, point(1, 0, 0), point(0, 0, 0)), rowOf(100, point(1, -1, 0), point(0, -1, 0))),
		tableOf(rowOf(0, point(0, 0, 0), point(0, 1, 0)), rowOf(1, point(-1, 0, 0), point(-1, 1, 0))),
		tableOf(rowOf(0, point(0, 0, 0), point(1, 0, 0)), rowOf(1, point(2, 1, 0), point(3, 1, 0))), // rows that lie beside one another
		sTable(),
	} {
		if row, e := machine.CheckTable(x); row != 0 || e != api.OK {
			t.Error(x, row, e)
		}
	}
}

// P5.1: a table folds where the areas below the edges of a triangle say so.
func TestFoldsAgainstModel(t *testing.T) {
	r := random(1)
	folds := 0
	for range 5000 {
		x := scatter(r, between(r, 2, 4), between(r, 2, 4))
		want, at := api.OK, 0
		triangles, rows := modelTriangles(x)
		for i, y := range triangles {
			if want == api.OK && modelArea(y) <= 0 {
				want, at = api.ErrClash, rows[i]
			}
		}
		if row, e := machine.CheckTable(x); row != at || e != want {
			t.Fatal(x, row, e, at, want)
		}
		if want != api.OK {
			folds++
		}
	}
	if folds < 500 || folds > 4500 {
		t.Error(folds)
	}
}

func call(results ...any) []any {
	return results
}

// failed tells whether results are zero, except for the last one, which is an error.
func failed(results []any, want api.Errno) bool {
	last := len(results) - 1
	for _, result := range results[:last] {
		v := reflect.ValueOf(result)
		if !v.IsZero() && (v.Kind() != reflect.Slice || v.Len() > 0) {
			return false
		}
	}
	return results[last] == want
}

// calls is every function with a table as its argument, but for CheckTable and FormatTable. The other arguments are as wrong as possible.
func calls(x api.MachineTable) [][]any {
	opening := api.Frac{Num: math.MinInt, Den: math.MinInt}
	return [][]any{
		call(machine.AreaOf(x)), call(machine.BoundsOf(x)), call(machine.CurveAt(x, opening)),
		call(machine.SpotsOn(x, opening, api.MachineLine{})), call(machine.FlowsAt(x, opening, math.MinInt)),
		call(machine.OperatingPoints(x, opening, api.MachineWater{Static: math.MinInt, Slope: -1})), call(machine.RunawayOf(x, opening)),
		call(machine.LocationsOf(x, math.MinInt, math.MaxInt)), call(machine.MostPower(x, math.MinInt)), call(machine.BestFor(x, 0, 0)),
		call(machine.Turned(x)), call(machine.Rows(x, -1, math.MaxInt)), call(machine.Joined(x, tableOf())),
	}
}

// P5.1 to P5.5: the error of the table comes first, and all else is zero.
func TestBadTables(t *testing.T) {
	for _, c := range badTables() {
		for i, got := range calls(c.table) {
			if !failed(got, c.want) {
				t.Error(c, i, got)
			}
		}
		if got := call(machine.Joined(goodTable(), c.table)); !failed(got, c.want) {
			t.Error(c, got)
		}
		if got := call(machine.Joined(c.table, goodTable())); !failed(got, c.want) {
			t.Error(c, got)
		}
	}
}

type badOpening struct {
	opening api.Frac
	want    api.Errno
}

// badOpenings returns openings with an error for the table of the examples, whose openings are 10 to 20.
func badOpenings() []badOpening {
	l := []badOpening{
		{api.Frac{}, api.ErrForm}, {api.Frac{Num: 15}, api.ErrForm}, {api.Frac{Num: 1}, api.ErrForm}, {api.Frac{Num: -15, Den: -1}, api.ErrForm}, {api.Frac{Num: 15, Den: -1}, api.ErrForm}, {api.Frac{Num: 30, Den: 2}, api.ErrForm}, {api.Frac{Num: 150, Den: 10}, api.ErrForm},
		{api.Frac{Num: 45, Den: 3}, api.ErrForm}, {api.Frac{Num: 0, Den: 2}, api.ErrForm}, {api.Frac{Num: 0, Den: 11}, api.ErrForm}, {api.Frac{Num: 165, Den: 11}, api.ErrForm}, {api.Frac{Num: -4, Den: 2}, api.ErrForm}, {api.Frac{Num: 180, Den: 12}, api.ErrForm},
		{api.Frac{Num: math.MinInt, Den: 2}, api.ErrForm}, {api.Frac{Num: math.MinInt, Den: math.MinInt}, api.ErrForm}, {api.Frac{Num: math.MaxInt, Den: math.MaxInt}, api.ErrForm}, {api.Frac{Num: math.MinInt, Den: -1}, api.ErrForm}, {api.Frac{Num: 4, Den: 1 << 62}, api.ErrForm},
		{api.Frac{Num: 166, Den: 11}, api.ErrRange}, {api.Frac{Num: 181, Den: 12}, api.ErrRange}, {api.Frac{Num: 1, Den: 11}, api.ErrRange}, {api.Frac{Num: 1501, Den: 100}, api.ErrRange}, {api.Frac{Num: 15, Den: math.MaxInt}, api.ErrRange}, {api.Frac{Num: math.MaxInt, Den: 1 << 62}, api.ErrRange},
		{api.Frac{Num: 99, Den: 10}, api.ErrRange}, {api.Frac{Num: 201, Den: 10}, api.ErrRange}, {api.Frac{Num: 79, Den: 8}, api.ErrRange}, {api.Frac{Num: 141, Den: 7}, api.ErrRange}, {api.Frac{Num: 3, Den: 10}, api.ErrRange}, {api.Frac{Num: -151, Den: 10}, api.ErrRange},
		{api.Frac{Num: math.MinInt, Den: 1}, api.ErrRange}, {api.Frac{Num: math.MinInt, Den: 3}, api.ErrRange}, {api.Frac{Num: math.MaxInt, Den: 2}, api.ErrRange}, {api.Frac{Num: math.MaxInt, Den: 10}, api.ErrRange},
	}
	for _, n := range outside(10, 20) {
		l = append(l, badOpening{whole(n), api.ErrRange})
	}
	return append(l, badOpening{whole(0), api.ErrRange}, badOpening{whole(-15), api.ErrRange})
}

// P5.2 and P5.3: the error of the opening, before those of other arguments.
func TestBadOpenings(t *testing.T) {
	x := goodTable()
	for _, c := range badOpenings() {
		for i, got := range [][]any{
			call(machine.CurveAt(x, c.opening)), call(machine.RunawayOf(x, c.opening)),
			call(machine.SpotsOn(x, c.opening, api.MachineLine{})), call(machine.SpotsOn(x, c.opening, api.MachineLine{Head: 101})), call(machine.SpotsOn(x, c.opening, api.MachineLine{Head: 1})),
			call(machine.FlowsAt(x, c.opening, 1001)), call(machine.FlowsAt(x, c.opening, 100)),
			call(machine.OperatingPoints(x, c.opening, api.MachineWater{Static: 1001})), call(machine.OperatingPoints(x, c.opening, api.MachineWater{Static: 150, Machines: 1})),
		} {
			if !failed(got, c.want) {
				t.Error(c, i, got)
			}
		}
	}
	for den := 1; den <= 10; den++ {
		for num := 10 * den; num <= 20*den; num++ {
			if f := (api.Frac{Num: num, Den: den}); lowest(num, den) == f {
				if s, e := machine.CurveAt(x, f); len(s) < 3 || e != api.OK {
					t.Error(f, s, e)
				}
			}
		}
	}
}

// R2: no call panics or goes on for ever, whatever its arguments are.
func TestAnyArguments(t *testing.T) {
	r := random(2)
	number := func() int {
		return chosen(r, math.MinInt, math.MinInt+1, -10001, -10000, -1001, -1000, -101, -1, 0, 0, 0, 1, 1, 2, 3, 5, 10, 11, 20, 21, 100, 101, 1000, 1001, 10000, 10001, api.MaxPart, api.MaxPart+1, math.MaxInt-1, math.MaxInt)
	}
	frac := func() api.Frac { return api.Frac{Num: number(), Den: number()} }
	table := func() api.MachineTable {
		x := someTable(r)
		if r.IntN(4) > 0 {
			return x
		}
		for i := range x.Rows {
			if r.IntN(4) == 0 {
				x.Rows[i].Opening = number()
			}
			if r.IntN(4) == 0 {
				x.Rows[i].Points = x.Rows[i].Points[:r.IntN(len(x.Rows[i].Points))]
			}
			for k := range x.Rows[i].Points {
				if r.IntN(6) == 0 {
					x.Rows[i].Points[k] = point(number(), number(), number())
				}
			}
		}
		return tableOf(x.Rows[:r.IntN(len(x.Rows)+1)]...)
	}
	for range 20000 {
		x, opening := table(), frac()
		if valid(x) && r.IntN(4) > 0 {
			opening = randomOpening(r, x)
		}
		calls(x)
		s := api.MachineSpot{Head: frac(), Flow: frac(), Power: frac()}
		machine.CurveAt(x, opening)
		machine.RunawayOf(x, opening)
		machine.SpotsOn(x, opening, api.MachineLine{Head: number(), Flow: number(), Power: number(), Value: number()})
		machine.FlowsAt(x, opening, number())
		machine.OperatingPoints(x, opening, api.MachineWater{Static: number(), Slope: number(), Machines: number()})
		machine.LocationsOf(x, number(), number())
		machine.MostPower(x, number())
		machine.BestFor(x, number(), number())
		machine.Rows(x, number(), number())
		machine.Joined(x, table())
		machine.EfficiencyOf(s)
		machine.QuadrantOf(s)
		machine.MarginOf(s, api.MachineTail{Tail: number(), Factor: number()})
		machine.ParseTable(machine.FormatTable(x))
	}
}

// spoil writes over all memory of a slice, also beyond its end.
func spoil[T any](l []T) {
	clear(l[:cap(l)])
}

// R3 and R4: calls change no argument, and what is done with a result changes neither another part of it nor any argument or later result.
func TestMemory(t *testing.T) {
	x, y := parsed(t, "10 :0,0,0 :100,10,500;20 :0,10,0 :100,30,2000;30 :0,40,0 :100,50,100"), parsed(t, "30 :0,40,0 :100,50,100;40 :0,60,0 :100,70,2000")
	copied := []string{machine.FormatTable(x), machine.FormatTable(y)}
	results := func() []any {
		curve, _ := machine.CurveAt(x, whole(15))
		on, _ := machine.SpotsOn(x, whole(15), api.MachineLine{Head: 1, Value: 50})
		flows, _ := machine.FlowsAt(x, whole(15), 50)
		operating, _ := machine.OperatingPoints(x, whole(15), api.MachineWater{Static: 60, Slope: 1, Machines: 2})
		runaway, _ := machine.RunawayOf(x, whole(15))
		locations, _ := machine.LocationsOf(x, 50, 20)
		turned, _ := machine.Turned(x)
		rows, _ := machine.Rows(x, 0, 2)
		joined, _ := machine.Joined(x, y)
		bounds, _ := machine.BoundsOf(x)
		return []any{curve, on, flows, operating, runaway, locations, turned, rows, joined, bounds}
	}
	before := results()
	for _, result := range results() {
		switch l := result.(type) {
		case []api.MachineSpot:
			spoil(l)
		case []api.Frac:
			spoil(l)
		case []api.MachineLocation:
			spoil(l)
		case api.MachineTable:
			for i := range l.Rows {
				other := (i + 1) % len(l.Rows)
				own := slices.Clone(l.Rows[other].Points)
				if spoil(l.Rows[i].Points); !slices.Equal(own, l.Rows[other].Points) {
					t.Error("rows share memory", i)
				}
			}
			spoil(l.Rows)
		}
	}
	if after := results(); !reflect.DeepEqual(before, after) {
		t.Error(before, after)
	}
	if now := []string{machine.FormatTable(x), machine.FormatTable(y)}; !slices.Equal(now, copied) {
		t.Error("an argument was changed", now)
	}
}
