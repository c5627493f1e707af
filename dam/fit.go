package dam

import (
	"iter"

	"guidevane/api"
)

// allTerms is the model that chooses every term.
const allTerms = 1<<termCount - 1

// fit is a fit whose numbers were checked.
type fit struct{ api.DamFit }

// FitOf returns the reduced fit of a model to readings.
func FitOf(l []api.DamReading, terms int) (api.DamFit, api.Errno) {
	if e := first(checkReadings(l), checkTerms(terms)); e != api.OK {
		return api.DamFit{}, e
	}
	f := equationsOf(l, terms).solution()
	if f.Den == 0 {
		return api.DamFit{}, api.ErrNone
	}
	reduced := f.reduced()
	if checkFit(reduced) != api.OK {
		return api.DamFit{}, api.ErrLarge
	}
	return reduced, api.OK
}

// CheckFit returns the error of what should be the reduced fit of a model to readings, with the index of the term.
func CheckFit(l []api.DamReading, terms int, f api.DamFit) (int, api.Errno) {
	if e := first(checkReadings(l), checkTerms(terms), checkFit(f)); e != api.OK {
		return 0, e
	}
	for term := range chosen(allTerms &^ terms) {
		if f.Parts[term] != 0 {
			return term, api.ErrForm
		}
	}
	checked := fit{f}
	if checked.divisor() != 1 {
		return 0, api.ErrForm
	}
	for term := range chosen(terms) {
		if !checked.holds(l, term) {
			return term, api.ErrProof
		}
	}
	return 0, api.OK
}

// checkTerms returns the error of the terms that a model chooses.
func checkTerms(terms int) api.Errno {
	return checkWithin(1, allTerms, terms)
}

// checkFit returns the error of the numbers of a fit.
func checkFit(f api.DamFit) api.Errno {
	return first(
		checkWithin(1, api.MaxDamFit, f.Den),
		checkSizes(api.MaxDamFit, f.Parts[:]...))
}

// chosen ranges over the terms that a model chooses.
func chosen(terms int) iter.Seq[int] {
	return func(yield func(term int) bool) {
		for term := range termCount {
			if terms>>term&1 == 1 && !yield(term) {
				return
			}
		}
	}
}

// sum returns Den times what a model's terms add to the movement.
func (f fit) sum(x vector, terms int) int {
	sum := 0
	for term := range chosen(terms) {
		sum += f.Parts[term] * x[term]
	}
	return sum
}

// residual returns Den times the residual of a reading.
func (f fit) residual(r api.DamReading) int {
	return f.Den*r.Movement - f.sum(termsOf(r), allTerms)
}

// holds returns whether the equation of a term holds. Its sum is below 3 * 10^18, which does not overflow.
func (f fit) holds(l []api.DamReading, term int) bool {
	sum := 0
	for _, r := range l {
		sum += termsOf(r)[term] * f.residual(r)
	}
	return sum == 0
}

// divisor returns the greatest number that divides Den, which is above 0, and all parts.
func (f fit) divisor() int {
	divisor := f.Den
	for _, part := range f.Parts {
		divisor = divisorOf(divisor, part)
	}
	return divisor
}

func (f fit) reduced() api.DamFit {
	divisor := f.divisor()
	reduced := api.DamFit{Den: f.Den / divisor}
	for term, part := range f.Parts {
		reduced.Parts[term] = part / divisor
	}
	return reduced
}

// divisorOf returns the greatest common divisor of a number above 0 and another one.
func divisorOf(positive, n int) int {
	a, b := positive, max(n, -n)
	for b != 0 {
		a, b = b, a%b
	}
	return a
}
