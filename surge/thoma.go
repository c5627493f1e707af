package surge

import "guidevane/api"

// maxMachines is how many machines a tunnel may have.
const maxMachines = 6

// ThomaOf returns Thoma's area in lowest terms.
func ThomaOf(x api.SurgeThoma) (api.Frac, api.Errno) {
	if e := checkThoma(x); e != api.OK {
		return api.Frac{}, e
	}
	num, den := thoma(x)
	common := divisorOf(num, den)
	f := api.Frac{Num: num / common, Den: den / common}
	if max(f.Num, f.Den) > api.MaxPart {
		return api.Frac{}, api.ErrLarge
	}
	return f, api.OK
}

// IsDamped returns whether all areas of a range, none or some of them exceed Thoma's area. It compares with the fraction as it is, which may have parts above MaxPart.
func IsDamped(x api.SurgeThoma, areas api.Range) (int, api.Errno) {
	if e := first(checkThoma(x), checkRange(areas, checkArea)); e != api.OK {
		return 0, e
	}
	num, den := thoma(x)
	switch {
	case areas.Lo*den > num:
		return api.AnswerYes, api.OK
	case areas.Hi*den <= num:
		return api.AnswerNo, api.OK
	}
	return api.AnswerMaybe, api.OK
}

func checkThoma(x api.SurgeThoma) api.Errno {
	return first(
		checkWithin(x.Length, 1, api.MaxSurgeThoma),
		checkWithin(x.Section, 1, api.MaxSurgeThoma),
		checkWithin(x.Loss, 1, api.MaxSurgeThoma),
		checkWithin(x.Head, 1, api.MaxSurgeThoma),
		checkWithin(x.Machines, 1, maxMachines))
}

func checkArea(area int) api.Errno {
	return checkWithin(area, 0, api.MaxPart)
}

// thoma returns numerator and denominator of Thoma's area.
func thoma(x api.SurgeThoma) (int, int) {
	return x.Length * x.Section * 1000 * x.Machines, 2 * x.Loss * x.Head
}

// divisorOf returns the greatest common divisor of two positive numbers.
func divisorOf(a, b int) int {
	for b != 0 {
		a, b = b, a%b
	}
	return a
}
