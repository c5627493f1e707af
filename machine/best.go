package machine

import (
	"cmp"
	"slices"

	"guidevane/api"
)

// choice is a spot of the curve of a row, with the row's opening.
type choice struct {
	exact
	opening int
}

// BestFor returns the spot of the rows' curves that has the maximum efficiency at a head with at least a power.
func BestFor(t api.MachineTable, head, power int) (api.MachineBest, api.Errno) {
	if e := first(checkTable(t), checkWithin(head, 1, api.MaxMachineSize), checkWithin(power, 1, api.MaxMachinePower)); e != api.OK {
		return api.MachineBest{}, e
	}
	var choices []choice
	for _, row := range t.Rows {
		for _, x := range onLine(curve(t, api.Frac{Num: row.Opening, Den: 1}), lineOfHead(head)) {
			if x.numbers[atFlow] > 0 && x.numbers[atPower] >= power*x.den {
				choices = append(choices, choice{x, row.Opening})
			}
		}
	}
	if len(choices) == 0 {
		return api.MachineBest{}, api.ErrNone
	}
	best := slices.MinFunc(choices, compareChoices)
	s, e := best.spot()
	if e != api.OK {
		return api.MachineBest{}, e
	}
	return api.MachineBest{Opening: best.opening, Spot: s}, api.OK
}

// compareChoices compares choices at one head, the better one first: there efficiencies are as powers divided by flows.
func compareChoices(a, b choice) int {
	return cmp.Or(
		cmp.Compare(b.numbers[atPower]*a.numbers[atFlow], a.numbers[atPower]*b.numbers[atFlow]),
		cmp.Compare(a.opening, b.opening),
		compareAt(atFlow, a.exact, b.exact))
}
