package machine

import (
	"slices"

	"guidevane/api"
)

// Turned returns the table with the opposite heads and flows.
func Turned(t api.MachineTable) (api.MachineTable, api.Errno) {
	if e := checkTable(t); e != api.OK {
		return api.MachineTable{}, e
	}
	turn := func(p api.MachinePoint) api.MachinePoint {
		return api.MachinePoint{Head: -p.Head, Flow: -p.Flow, Power: p.Power}
	}
	return tableOf(t.Rows, turn), api.OK
}

// Rows returns the table of the rows from an index to another one.
func Rows(t api.MachineTable, from, to int) (api.MachineTable, api.Errno) {
	if e := checkTable(t); e != api.OK {
		return api.MachineTable{}, e
	}
	last := len(t.Rows) - 1
	if e := first(unless(within(from, 0, last) && within(to, 0, last), api.ErrMissing), unless(from < to, api.ErrOrder)); e != api.OK {
		return api.MachineTable{}, e
	}
	return tableOf(t.Rows[from:to+1], same), api.OK
}

// Joined returns the rows of a table, and those of another one, which begins with the last one of the first table.
func Joined(a, b api.MachineTable) (api.MachineTable, api.Errno) {
	if e := first(checkTable(a), checkTable(b)); e != api.OK {
		return api.MachineTable{}, e
	}
	rows := slices.Concat(a.Rows, b.Rows[1:])
	if e := first(unless(sameRow(a.Rows[len(a.Rows)-1], b.Rows[0]), api.ErrClash), unless(len(rows) <= api.MaxMachineRows, api.ErrLarge)); e != api.OK {
		return api.MachineTable{}, e
	}
	return tableOf(rows, same), api.OK
}

// tableOf returns a table of rows with new points, made from the given ones.
func tableOf(rows []api.MachineRow, pointOf func(p api.MachinePoint) api.MachinePoint) api.MachineTable {
	var t api.MachineTable
	for _, row := range rows {
		made := api.MachineRow{Opening: row.Opening}
		for _, p := range row.Points {
			made.Points = append(made.Points, pointOf(p))
		}
		t.Rows = append(t.Rows, made)
	}
	return t
}

func same(p api.MachinePoint) api.MachinePoint {
	return p
}

func sameRow(a, b api.MachineRow) bool {
	return a.Opening == b.Opening && slices.Equal(a.Points, b.Points)
}
