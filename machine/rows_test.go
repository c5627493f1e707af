package machine_test

import (
	"math"
	"slices"
	"testing"

	"guidevane/api"
	"guidevane/machine"
)

func sameTable(a, b api.MachineTable) bool {
	return slices.EqualFunc(a.Rows, b.Rows, func(x, y api.MachineRow) bool { return x.Opening == y.Opening && slices.Equal(x.Points, y.Points) })
}

// P5.5, example 8.
func TestTurned(t *testing.T) {
	for s, want := range map[string]string{
		example: "10 :0,0,0 :-100,-10,500 :-200,-14,1800;20 :0,-10,0 :-100,-30,2000 :-200,-40,6000",
		"0 :-5,3,-7 :5,3,7;1 :-5,6,1 :5,6,-1;2 :-5,9,1 :5,9,-1":                          "0 :5,-3,-7 :-5,-3,7;1 :5,-6,1 :-5,-6,-1;2 :5,-9,1 :-5,-9,-1",
		"0 :-1000,-1000,-10000 :1000,-1000,10000;20 :-1000,1000,10000 :1000,1000,-10000": "0 :1000,1000,-10000 :-1000,1000,10000;20 :1000,-1000,10000 :-1000,-1000,-10000",
	} {
		if x, e := machine.Turned(parsed(t, s)); machine.FormatTable(x) != want || e != api.OK {
			t.Error(s, machine.FormatTable(x), e)
		}
	}
}

// P5.12.
func TestTurnedTables(t *testing.T) {
	r := random(17)
	found := 0
	for range 3000 {
		x := someTable(r)
		y, e := machine.Turned(x)
		z, f := machine.Turned(y)
		if !sameTable(x, z) || e != api.OK || f != api.OK || !valid(y) {
			t.Fatal(x, y, z, e, f)
		}
		a, _ := machine.AreaOf(x)
		if b, e := machine.AreaOf(y); a != b || e != api.OK {
			t.Fatal(x, a, b)
		}
		opening, head := randomOpening(r, x), chosen(r, chosen(r, x.Rows...).Points...).Head
		flows, e := machine.FlowsAt(x, opening, head)
		turned, f := machine.FlowsAt(y, opening, -head)
		for i := range turned {
			turned[i].Num = -turned[i].Num
		}
		if slices.Reverse(turned); !slices.Equal(flows, turned) || e != f {
			t.Fatal(x, opening, head, flows, turned, e, f)
		}
		found += len(flows)
	}
	if found < 1000 {
		t.Error(found)
	}
}

// P5.5.
func TestRows(t *testing.T) {
	x := grid(6, 3)
	for from := range 6 {
		for to := range 6 {
			y, e := machine.Rows(x, from, to)
			if from >= to {
				if !failed(call(y, e), api.ErrOrder) {
					t.Error(from, to, y, e)
				}
			} else if !sameTable(y, tableOf(x.Rows[from:to+1]...)) || e != api.OK {
				t.Error(from, to, y, e)
			}
		}
		for _, n := range []int{-1, 6, 7, -100, math.MinInt, math.MaxInt} {
			for _, got := range [][]any{call(machine.Rows(x, from, n)), call(machine.Rows(x, n, from)), call(machine.Rows(x, n, n))} {
				if !failed(got, api.ErrMissing) {
					t.Error(from, n, got)
				}
			}
		}
	}
	if got := call(machine.Rows(goodTable(), 0, 2)); !failed(got, api.ErrMissing) {
		t.Error(got)
	}
}

// P5.5.
func TestJoined(t *testing.T) {
	x := grid(6, 3)
	top := tableOf(x.Rows[3:]...)
	for from := range 3 {
		below := tableOf(x.Rows[from:4]...)
		if y, e := machine.Joined(below, top); !sameTable(y, tableOf(x.Rows[from:]...)) || e != api.OK {
			t.Error(from, y, e)
		}
	}
	change := func(change func(rows []api.MachineRow)) api.MachineTable {
		y := parsed(t, machine.FormatTable(top))
		change(y.Rows)
		return y
	}
	for i, y := range []api.MachineTable{
		x, grid(2, 3), goodTable(), tableOf(x.Rows[2:]...), tableOf(x.Rows[4:]...),
		change(func(rows []api.MachineRow) { rows[0].Opening++ }),
		change(func(rows []api.MachineRow) { rows[0].Points[0].Head-- }),
		change(func(rows []api.MachineRow) { rows[0].Points[2].Flow++ }),
		change(func(rows []api.MachineRow) { rows[0].Points[1].Power++ }),
		change(func(rows []api.MachineRow) {
			for i := range rows {
				rows[i].Points = rows[i].Points[:2]
			}
		}),
	} {
		if got := call(machine.Joined(tableOf(x.Rows[:4]...), y)); !valid(y) || !failed(got, api.ErrClash) {
			t.Error(i, got)
		}
	}
	// Openings from 0 to 100 in two tables: 4 and 4 rows have 7 together, 4 and 3 have 6.
	dense := func(begin, rows int) api.MachineTable {
		var y api.MachineTable
		for i := range rows {
			n := begin + i
			y.Rows = append(y.Rows, rowOf(n, point(0, n, 1), point(9, n, 2)))
		}
		return y
	}
	for _, c := range []struct {
		a, b int
		want api.Errno
	}{{4, 4, api.ErrLarge}, {6, 6, api.ErrLarge}, {6, 2, api.ErrLarge}, {2, 6, api.ErrLarge}, {4, 3, api.OK}, {5, 2, api.OK}, {2, 5, api.OK}, {2, 2, api.OK}, {3, 5, api.ErrLarge}} {
		y, e := machine.Joined(dense(0, c.a), dense(c.a-1, c.b))
		if c.want != api.OK && !failed(call(y, e), c.want) || c.want == api.OK && (!sameTable(y, dense(0, c.a+c.b-1)) || e != api.OK) {
			t.Error(c, y, e)
		}
	}
	if got := call(machine.Joined(dense(0, 6), dense(0, 6))); !failed(got, api.ErrClash) {
		t.Error(got)
	}
}

// P5.13.
func TestJoinedTables(t *testing.T) {
	r := random(18)
	joined := 0
	for range 3000 {
		x := someTable(r)
		area, _ := machine.AreaOf(x)
		for row := 1; row < len(x.Rows)-1; row++ {
			below, e := machine.Rows(x, 0, row)
			above, f := machine.Rows(x, row, len(x.Rows)-1)
			y, g := machine.Joined(below, above)
			if !sameTable(x, y) || e != api.OK || f != api.OK || g != api.OK {
				t.Fatal(x, row, below, above, y, e, f, g)
			}
			a, _ := machine.AreaOf(below)
			b, _ := machine.AreaOf(above)
			if a+b != area {
				t.Fatal(x, row, a, b, area)
			}
			joined++
		}
	}
	if joined < 1000 {
		t.Error(joined)
	}
}
