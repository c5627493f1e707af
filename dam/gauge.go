package dam

import "guidevane/api"

// AgreedOf returns the agreed range of instruments.
func AgreedOf(l []api.DamGauge) (api.Range, api.Errno) {
	if e := checkGauges(l); e != api.OK {
		return api.Range{}, e
	}
	agreed := trueRange(l[0])
	for _, g := range l {
		agreed = common(agreed, trueRange(g))
	}
	if isEmpty(agreed) {
		return api.Range{}, api.ErrClash
	}
	return agreed, api.OK
}

// Contradicting returns the names of the first two instruments that contradict each other. Ranges of which each two meet have a number in common, so that two are enough.
func Contradicting(l []api.DamGauge) ([2]string, api.Errno) {
	if e := checkGauges(l); e != api.OK {
		return [2]string{}, e
	}
	for i, g := range l {
		for _, other := range l[i+1:] {
			if isEmpty(common(trueRange(g), trueRange(other))) {
				return [2]string{g.Name, other.Name}, api.OK
			}
		}
	}
	return [2]string{}, api.ErrNone
}

// checkGauges returns the error of instruments.
func checkGauges(l []api.DamGauge) api.Errno {
	checkName := newNames()
	_, e := firstItem(len(l), func(i int) api.Errno {
		value, shift := l[i].Value, l[i].Shift
		return first(
			checkName(l[i].Name),
			checkSizes(api.MaxDamValue, value.Lo, value.Hi, shift.Lo, shift.Hi),
			unless(!isEmpty(value) && !isEmpty(shift), api.ErrOrder))
	})
	return first(checkCount(len(l), api.MaxDamGauges), e)
}

// trueRange returns the range in which the true value lies by an instrument.
func trueRange(g api.DamGauge) api.Range {
	return api.Range{Lo: g.Value.Lo - g.Shift.Hi, Hi: g.Value.Hi - g.Shift.Lo}
}

func common(a, b api.Range) api.Range {
	return api.Range{Lo: max(a.Lo, b.Lo), Hi: min(a.Hi, b.Hi)}
}

func isEmpty(r api.Range) bool {
	return r.Lo > r.Hi
}
