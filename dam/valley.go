package dam

import (
	"cmp"
	"slices"

	"guidevane/api"
)

// nowhere is a position below those of all houses.
const nowhere = -1

// valley is a valley that was checked, in which each house hears a siren.
type valley struct{ api.DamValley }

// CheckValley returns the error of a valley, with the index of the siren or of the house.
func CheckValley(v api.DamValley) (int, api.Errno) {
	if e := first(
		checkMost(len(v.Sirens), api.MaxDamSirens),
		checkMost(len(v.Houses), api.MaxDamHouses)); e != api.OK {
		return 0, e
	}
	if i, e := firstItem(len(v.Sirens), func(i int) api.Errno {
		return checkWithin(0, api.MaxDamValue, v.Sirens[i].At, v.Sirens[i].Reach)
	}); e != api.OK {
		return i, e
	}
	return firstItem(len(v.Houses), func(i int) api.Errno {
		return checkWithin(0, api.MaxDamValue, v.Houses[i])
	})
}

// CoverOf returns the minimum cover.
func CoverOf(v api.DamValley) ([]int, api.Errno) {
	checked, e := valleyOf(v)
	if e != api.OK {
		return nil, e
	}
	return checked.cover(), api.OK
}

// PackingOf returns a packing with as many houses as the minimum cover has sirens.
func PackingOf(v api.DamValley) ([]int, api.Errno) {
	checked, e := valleyOf(v)
	if e != api.OK {
		return nil, e
	}
	packing := checked.packing(checked.all())
	slices.Sort(packing)
	return packing, api.OK
}

func valleyOf(v api.DamValley) (valley, api.Errno) {
	if _, e := CheckValley(v); e != api.OK {
		return valley{}, e
	}
	checked := valley{v}
	hearsNone := func(house int) bool { return checked.heardTo(house) == nowhere }
	if slices.ContainsFunc(v.Houses, hearsNone) {
		return valley{}, api.ErrNone
	}
	return checked, api.OK
}

// all returns the indexes of all houses.
func (v valley) all() []int {
	var all []int
	for i := range v.Houses {
		all = append(all, i)
	}
	return all
}

func isHeard(s api.DamSiren, house int) bool {
	return s.At-s.Reach <= house && house <= s.At+s.Reach
}

// heardTo returns the farthest position at which a siren is heard that is also heard at a house.
func (v valley) heardTo(house int) int {
	end := nowhere
	for _, s := range v.Sirens {
		if isHeard(s, house) {
			end = max(end, s.At+s.Reach)
		}
	}
	return end
}

// packing returns houses of some houses, by position, of which no siren is heard by two, and as many as these houses need sirens: of the sirens that are heard at each one, the one that is heard farthest is heard at all of the houses up to the next one.
func (v valley) packing(houses []int) []int {
	byPosition := slices.SortedFunc(slices.Values(houses), func(a, b int) int {
		return cmp.Compare(v.Houses[a], v.Houses[b])
	})
	var packing []int
	end := nowhere
	for _, house := range byPosition {
		if at := v.Houses[house]; at > end {
			packing = append(packing, house)
			end = v.heardTo(at)
		}
	}
	return packing
}

// cover returns the minimum cover: it takes each siren with which the ones that were taken can be completed to a cover of the minimum size.
func (v valley) cover() []int {
	var cover []int
	houses := v.all()
	least := len(v.packing(houses))
	for i, s := range v.Sirens {
		others := v.notHearing(s, houses)
		if len(cover)+1+len(v.packing(others)) == least {
			cover, houses = append(cover, i), others
		}
	}
	return cover
}

// notHearing returns those of some houses at which a siren is not heard.
func (v valley) notHearing(s api.DamSiren, houses []int) []int {
	var others []int
	for _, house := range houses {
		if !isHeard(s, v.Houses[house]) {
			others = append(others, house)
		}
	}
	return others
}
