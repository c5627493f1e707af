package lake

import "guidevane/api"

// maxDate is the last date of which seasons are known.
const maxDate = 100000

// MinimumOn returns the minimum level on a date.
func MinimumOn(l []api.LakeSeason, date int) (int, api.Errno) {
	e := first(
		when(len(l) > api.MaxLakeSeasons, api.ErrLarge),
		each(len(l), func(i int) api.Errno { return checkSeason(l[i]) }),
		when(!within(date, 0, maxDate), api.ErrRange))
	if e != api.OK {
		return 0, e
	}
	minimum := 0
	for _, s := range l {
		if contains(s, date%api.LakeYear) {
			minimum = max(minimum, s.Level)
		}
	}
	return minimum, api.OK
}

func checkSeason(s api.LakeSeason) api.Errno {
	if !within(s.From, 0, api.LakeYear-1) || !within(s.To, 0, api.LakeYear-1) || !within(s.Level, 0, api.MaxLakeLevel) {
		return api.ErrRange
	}
	return api.OK
}

// contains tells whether a season contains a day of the year. One that begins after it ends contains the turn of the year.
func contains(s api.LakeSeason, day int) bool {
	if s.From <= s.To {
		return within(day, s.From, s.To)
	}
	return day >= s.From || day <= s.To
}
