package dam

import "guidevane/api"

// The terms of a reading.
const (
	one = iota
	level
	evenQuarter // 1 in the first quarter of a year, -1 in the third one
	oddQuarter  // 1 in the second quarter of a year, -1 in the fourth one
	age
	termCount
)

// quarters is the number of quarters of a year.
const quarters = 4

// vector has a number for each term.
type vector [termCount]int

// CheckReading returns the error of a reading.
func CheckReading(r api.DamReading) api.Errno {
	return first(
		checkWithin(0, api.MaxDamDay, r.Day),
		checkSizes(api.MaxDamLevel, r.Level),
		checkSizes(api.MaxDamMovement, r.Movement))
}

// TermsOf returns the terms of a reading.
func TermsOf(r api.DamReading) ([5]int, api.Errno) {
	if e := CheckReading(r); e != api.OK {
		return [5]int{}, e
	}
	return termsOf(r), api.OK
}

func termsOf(r api.DamReading) vector {
	x := vector{one: 1, level: r.Level, age: r.Day / api.DamYear}
	switch r.Day % api.DamYear / (api.DamYear / quarters) {
	case 0:
		x[evenQuarter] = 1
	case 1:
		x[oddQuarter] = 1
	case 2:
		x[evenQuarter] = -1
	default:
		x[oddQuarter] = -1
	}
	return x
}

// checkReadings returns the error of readings.
func checkReadings(l []api.DamReading) api.Errno {
	_, e := firstItem(len(l), func(i int) api.Errno { return CheckReading(l[i]) })
	return first(checkCount(len(l), api.MaxDamReadings), e)
}
