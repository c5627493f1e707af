package machine

import (
	"cmp"
	"slices"

	"guidevane/api"
)

// LocationsOf returns all locations of a head and a flow.
func LocationsOf(t api.MachineTable, head, flow int) ([]api.MachineLocation, api.Errno) {
	if e := first(checkTable(t), checkSize(head), checkSize(flow)); e != api.OK {
		return nil, e
	}
	var locations []api.MachineLocation
	for _, x := range triangles(t) {
		if l, inside := x.locate(api.MachinePoint{Head: head, Flow: flow}); inside {
			locations = append(locations, l)
		}
	}
	if e := first(checkEach(locations, checkLocation), unless(len(locations) > 0, api.ErrNone)); e != api.OK {
		return nil, e
	}
	slices.SortFunc(locations, compareLocations)
	return slices.Compact(locations), api.OK
}

// MostPower returns the maximum power at a head. Since the power is linear on a triangle, it is enough to look at the borders.
func MostPower(t api.MachineTable, head int) (api.Frac, api.Errno) {
	if e := first(checkTable(t), checkSize(head)); e != api.OK {
		return api.Frac{}, e
	}
	var spots []exact
	for _, x := range triangles(t) {
		spots = append(spots, onLine(x.border(), lineOfHead(head))...)
	}
	if len(spots) == 0 {
		return api.Frac{}, api.ErrNone
	}
	most := slices.MaxFunc(spots, func(a, b exact) int { return compareAt(atPower, a, b) })
	return fraction(most.numbers[atPower], most.den)
}

// locate returns the opening and the power at the head and the flow of a point, and whether these lie in the triangle.
func (x triangle) locate(p api.MachinePoint) (api.MachineLocation, bool) {
	weights := [3]int{
		areaOf(p, x[1].MachinePoint, x[2].MachinePoint),
		areaOf(x[0].MachinePoint, p, x[2].MachinePoint),
		areaOf(x[0].MachinePoint, x[1].MachinePoint, p),
	}
	opening, power := 0, 0
	for i, weight := range weights {
		if weight < 0 {
			return api.MachineLocation{}, false
		}
		opening, power = opening+weight*x[i].opening, power+weight*x[i].Power
	}
	return api.MachineLocation{Opening: lowest(opening, x.area()), Power: lowest(power, x.area())}, true
}

// border returns the way round the triangle, back to where it begins.
func (x triangle) border() []exact {
	var way []exact
	for _, c := range x {
		way = append(way, exactOf(c.MachinePoint))
	}
	return append(way, way[0])
}

func checkLocation(l api.MachineLocation) api.Errno {
	return first(checkLarge(l.Opening), checkLarge(l.Power))
}

// compareLocations compares by opening, then by power.
func compareLocations(a, b api.MachineLocation) int {
	return cmp.Or(compare(a.Opening, b.Opening), compare(a.Power, b.Power))
}
