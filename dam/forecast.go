package dam

import "guidevane/api"

// The terms of the shares.
const (
	waterTerms  = 1 << level
	seasonTerms = 1<<evenQuarter | 1<<oddQuarter
	ageTerms    = 1<<one | 1<<age
)

// ResidualsOf returns the residual range of each reading.
func ResidualsOf(l []api.DamReading, f api.DamFit) ([]api.Range, api.Errno) {
	if e := first(checkReadings(l), checkFit(f)); e != api.OK {
		return nil, e
	}
	return fit{f}.residuals(l), api.OK
}

// SpreadOf returns the spread of a fit.
func SpreadOf(l []api.DamReading, f api.DamFit) (int, api.Errno) {
	if e := first(checkReadings(l), checkFit(f)); e != api.OK {
		return 0, e
	}
	return fit{f}.spread(l), api.OK
}

// ForecastOf returns the forecast for the day and the level of a reading.
func ForecastOf(l []api.DamReading, f api.DamFit, r api.DamReading) (api.Range, api.Errno) {
	if e := first(checkReadings(l), checkFit(f), CheckReading(r)); e != api.OK {
		return api.Range{}, e
	}
	given := fit{f}.share(r, allTerms)
	spread := fit{f}.spread(l)
	return api.Range{Lo: given.Lo - spread, Hi: given.Hi + spread}, api.OK
}

// SharesOf returns the shares of a reading: of the water, of the season and of the age.
func SharesOf(f api.DamFit, r api.DamReading) ([3]api.Range, api.Errno) {
	if e := first(checkFit(f), CheckReading(r)); e != api.OK {
		return [3]api.Range{}, e
	}
	checked := fit{f}
	return [3]api.Range{
		checked.share(r, waterTerms),
		checked.share(r, seasonTerms),
		checked.share(r, ageTerms),
	}, api.OK
}

func (f fit) residuals(l []api.DamReading) []api.Range {
	var residuals []api.Range
	for _, r := range l {
		residuals = append(residuals, rounded(f.residual(r), f.Den))
	}
	return residuals
}

func (f fit) spread(l []api.DamReading) int {
	spread := 0
	for _, residual := range f.residuals(l) {
		spread = max(spread, -residual.Lo, residual.Hi)
	}
	return spread
}

// share returns what a model's terms add to the movement of a reading.
func (f fit) share(r api.DamReading, terms int) api.Range {
	return rounded(f.sum(termsOf(r), terms), f.Den)
}

// rounded returns the quotient of a number and one above 0, rounded down and up.
func rounded(num, den int) api.Range {
	r := api.Range{Lo: num / den, Hi: num / den}
	switch rest := num % den; {
	case rest < 0:
		r.Lo--
	case rest > 0:
		r.Hi++
	}
	return r
}
