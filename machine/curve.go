package machine

import (
	"slices"

	"guidevane/api"
)

// maxSlope is the greatest slope of a waterway.
const maxSlope = 20

// CurveAt returns the curve of an opening.
func CurveAt(t api.MachineTable, opening api.Frac) ([]api.MachineSpot, api.Errno) {
	x, e := curveOf(t, opening)
	if e != api.OK {
		return nil, e
	}
	return spotsOf(x)
}

// SpotsOn returns the spots of the curve of an opening on a line.
func SpotsOn(t api.MachineTable, opening api.Frac, l api.MachineLine) ([]api.MachineSpot, api.Errno) {
	x, e := curveOf(t, opening)
	if e := first(e, checkLine(l)); e != api.OK {
		return nil, e
	}
	return orderedSpots(onLine(x, l))
}

// FlowsAt returns the flows of the curve of an opening at a head.
func FlowsAt(t api.MachineTable, opening api.Frac, head int) ([]api.Frac, api.Errno) {
	x, e := curveOf(t, opening)
	if e := first(e, checkSize(head)); e != api.OK {
		return nil, e
	}
	var flows []api.Frac
	for _, s := range onLine(x, lineOfHead(head)) {
		flows = append(flows, s.frac(atFlow))
	}
	if e := checkEach(flows, checkLarge); e != api.OK {
		return nil, e
	}
	slices.SortFunc(flows, compare)
	return slices.Compact(flows), api.OK
}

// OperatingPoints returns the spots of the curve of an opening whose head is what the waterway leaves at their flow.
func OperatingPoints(t api.MachineTable, opening api.Frac, w api.MachineWater) ([]api.MachineSpot, api.Errno) {
	x, e := curveOf(t, opening)
	if e := first(e, checkWater(w)); e != api.OK {
		return nil, e
	}
	l := api.MachineLine{Head: api.MachineParts, Flow: w.Slope * w.Machines, Value: api.MachineParts * w.Static}
	return orderedSpots(onLine(x, l))
}

// RunawayOf returns the spots of the curve of an opening that have no power.
func RunawayOf(t api.MachineTable, opening api.Frac) ([]api.MachineSpot, api.Errno) {
	x, e := curveOf(t, opening)
	if e != api.OK {
		return nil, e
	}
	return orderedSpots(onLine(x, api.MachineLine{Power: 1}))
}

func checkLine(l api.MachineLine) api.Errno {
	return first(
		checkUpTo(l.Head, api.MaxMachineCoef),
		checkUpTo(l.Flow, api.MaxMachineCoef),
		checkUpTo(l.Power, api.MaxMachineCoef),
		checkUpTo(l.Value, api.MaxMachineValue),
		unless(l.Head != 0 || l.Flow != 0 || l.Power != 0, api.ErrZero))
}

func checkWater(w api.MachineWater) api.Errno {
	return first(checkSize(w.Static), checkWithin(w.Slope, 0, maxSlope), checkWithin(w.Machines, 1, api.MaxMachines))
}

// checkOpening returns the error of an opening of a table that has no error itself.
func checkOpening(t api.MachineTable, opening api.Frac) api.Errno {
	least, greatest := t.Rows[0].Opening, t.Rows[len(t.Rows)-1].Opening
	return first(
		checkForm(opening),
		unless(opening.Den <= api.MaxMachineDen, api.ErrRange),
		checkWithin(opening.Num, least*opening.Den, greatest*opening.Den))
}

// curveOf returns the curve of an opening, unless the table or the opening has an error.
func curveOf(t api.MachineTable, opening api.Frac) ([]exact, api.Errno) {
	if e := checkTable(t); e != api.OK {
		return nil, e
	}
	if e := checkOpening(t, opening); e != api.OK {
		return nil, e
	}
	return curve(t, opening), api.OK
}

// curve returns the curve of an opening. Its spots have one denominator.
func curve(t api.MachineTable, opening api.Frac) []exact {
	i := rowUpTo(t, opening)
	low, high := t.Rows[i], t.Rows[i+1]
	part := lowest(opening.Num-low.Opening*opening.Den, (high.Opening-low.Opening)*opening.Den)
	var spots []exact
	add := func(a, b api.MachinePoint) {
		x := between(exactOf(a), exactOf(b), part)
		if len(spots) == 0 || spots[len(spots)-1] != x {
			spots = append(spots, x)
		}
	}
	for k, p := range high.Points {
		add(low.Points[k], p)
		if k+1 < len(low.Points) {
			add(low.Points[k+1], p)
		}
	}
	return spots
}

// rowUpTo returns the index of the last row, but not of the table's last one, whose opening is at most this.
func rowUpTo(t api.MachineTable, opening api.Frac) int {
	i := 0
	for i+2 < len(t.Rows) && t.Rows[i+1].Opening*opening.Den <= opening.Num {
		i++
	}
	return i
}
