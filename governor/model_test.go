package governor_test

import (
	"cmp"
	"math/big"
	"math/rand/v2"
	"slices"

	"guidevane/api"
)

// This file computes what the chapter defines once more: tables with fractions of any size, stability from products of coefficients, shifted polynomials from binomials, values from powers, minimum sets from all sets. Its arguments are made at random, but the same ones in every run.

func random(seed uint64) *rand.Rand {
	return rand.New(rand.NewPCG(seed, 6))
}

func between(r *rand.Rand, lo, hi int) int {
	return lo + r.IntN(hi-lo+1)
}

func chosen[T any](r *rand.Rand, l ...T) T {
	return l[r.IntN(len(l))]
}

func size(n int) int {
	return max(n, -n)
}

// randomGate returns a gate without an error.
func randomGate(r *rand.Rand) api.GovernorGate {
	most := chosen(r, 3, 20, 300, 10000)
	lo := r.IntN(most + 1)
	hi := between(r, lo, most)
	return api.GovernorGate{At: between(r, lo, hi), Lo: lo, Hi: hi, Rate: between(r, 1, chosen(r, 2, 10, most))}
}

// randomRules returns rules without an error.
func randomRules(r *rand.Rand) api.GovernorRules {
	return api.GovernorRules{Band: r.IntN(chosen(r, 1, 5, 100, 100001)), Num: r.IntN(chosen(r, 1, 5, 1001)), Den: between(r, 1, chosen(r, 2, 7, 1000)), Set: r.IntN(chosen(r, 1, 100, 10001))}
}

func randomSpeed(r *rand.Rand) int {
	most := chosen(r, 1, 10, 1000, 100000)
	return between(r, -most, most)
}

// modelWanted finds the quotient rounded towards 0 with fractions.
func modelWanted(r api.GovernorRules, d int) int {
	if size(d) <= r.Band {
		return r.Set
	}
	sign := cmp.Compare(d, 0)
	beyond := big.NewInt(int64(size(d) - r.Band))
	beyond.Mul(beyond, big.NewInt(int64(r.Num)))
	beyond.Quo(beyond, big.NewInt(int64(r.Den)))
	return r.Set - sign*int(beyond.Int64())
}

// modelStep moves a gate by 1 as often as it may.
func modelStep(g api.GovernorGate, wanted int) api.GovernorGate {
	for range g.Rate {
		switch {
		case g.At < wanted && g.At < g.Hi:
			g.At++
		case g.At > wanted && g.At > g.Lo:
			g.At--
		}
	}
	return g
}

// randomPolynomial returns a valid polynomial of a degree.
func randomPolynomial(r *rand.Rand, degree int) []int {
	most := chosen(r, 1, 3, 10, 100, 1000)
	least := chosen(r, -most, 0, 1, 1)
	p := []int{between(r, 1, most)}
	for range degree {
		p = append(p, between(r, least, most))
	}
	return p
}

// stablePolynomial returns a valid and stable polynomial, mostly one that is a product of factors.
func stablePolynomial(r *rand.Rand, degree int) []int {
	for {
		p := randomPolynomial(r, degree)
		if r.IntN(4) > 0 {
			p = []int{between(r, 1, 3)}
			for left := degree; left > 0; {
				if left > 1 && r.IntN(2) == 0 {
					p, left = product(p, []int{1, between(r, 1, 9), between(r, 1, 30)}), left-2
				} else {
					p, left = product(p, []int{1, between(r, 1, 12)}), left-1
				}
			}
		}
		if valid(p) && modelStable(p) {
			return p
		}
	}
}

func valid(p []int) bool {
	for _, coef := range p {
		if size(coef) > 1000 {
			return false
		}
	}
	return len(p) >= 2 && len(p) <= 5 && p[0] > 0
}

func product(p, q []int) []int {
	l := make([]int, len(p)+len(q)-1)
	for i, a := range p {
		for k, b := range q {
			l[i+k] += a * b
		}
	}
	return l
}

// modelStable tells whether a polynomial is stable: all coefficients are above 0, and so are the products of which Hurwitz' determinants consist for the degrees 3 and 4.
func modelStable(p []int) bool {
	if slices.Min(p) <= 0 {
		return false
	}
	switch len(p) {
	case 4:
		return p[1]*p[2] > p[0]*p[3]
	case 5:
		return p[1]*p[2]*p[3] > p[0]*p[3]*p[3]+p[1]*p[1]*p[4]
	}
	return true
}

// modelTable finds the table of Routh, each of whose rows is divided by the first entry of the one before, and multiplies its rows until all entries are whole numbers.
func modelTable(p []int) [][]int {
	var rows [][]*big.Rat
	for begin := range 2 {
		var row []*big.Rat
		for i := begin; i < len(p); i += 2 {
			row = append(row, big.NewRat(int64(p[i]), 1))
		}
		rows = append(rows, row)
	}
	for k := 1; k+1 < len(p) && rows[k][0].Sign() > 0; k++ {
		var row []*big.Rat
		for j := range (len(p)-1-(k+1))/2 + 1 {
			x := new(big.Rat).Quo(new(big.Rat).Mul(rows[k-1][0], entry(rows[k], j+1)), rows[k][0])
			row = append(row, x.Sub(entry(rows[k-1], j+1), x))
		}
		rows = append(rows, row)
	}
	var table [][]int
	for _, row := range rows {
		table = append(table, wholeRow(row))
	}
	return table
}

func entry(row []*big.Rat, j int) *big.Rat {
	if j < len(row) {
		return row[j]
	}
	return new(big.Rat)
}

// wholeRow returns the row of whole numbers without a common divisor that is proportional to a row.
func wholeRow(row []*big.Rat) []int {
	scale, common := big.NewInt(1), new(big.Int)
	for _, x := range row {
		scale.Mul(scale, x.Denom())
	}
	var numbers []*big.Int
	for _, x := range row {
		y := new(big.Rat).Mul(x, new(big.Rat).SetInt(scale))
		numbers = append(numbers, y.Num())
		common.GCD(nil, nil, common, new(big.Int).Abs(y.Num()))
	}
	var whole []int
	for _, n := range numbers {
		if common.Sign() != 0 {
			n = new(big.Int).Quo(n, common)
		}
		whole = append(whole, int(n.Int64()))
	}
	return whole
}

// modelValue sums up the powers of i w, one by one.
func modelValue(p []int, w int) api.Gauss {
	parts := [2]*big.Int{new(big.Int), new(big.Int)}
	for i, coef := range p {
		degree := len(p) - 1 - i
		term := new(big.Int).Exp(big.NewInt(int64(w)), big.NewInt(int64(degree)), nil)
		term.Mul(term, big.NewInt(int64(coef)))
		if degree%4 >= 2 {
			term.Neg(term)
		}
		parts[degree%2].Add(parts[degree%2], term)
	}
	return api.Gauss{Re: int(parts[0].Int64()), Im: int(parts[1].Int64())}
}

// randomGrid returns a grid without an error.
func randomGrid(r *rand.Rand) []int {
	grid := []int{r.IntN(chosen(r, 1, 3, 100))}
	step := chosen(r, 1, 3, 40)
	for range r.IntN(20) {
		grid = append(grid, grid[len(grid)-1]+between(r, 1, step))
	}
	return grid
}

// modelQuadrant counts by how many quarters a number must be turned back until it lies in the quadrant 0.
func modelQuadrant(v api.Gauss) int {
	turns := 0
	for v.Re <= 0 || v.Im < 0 {
		v = api.Gauss{Re: v.Im, Im: -v.Re}
		turns++
	}
	return turns
}

// modelShifted sums up the coefficients of all powers of s + b. It does not look whether they are valid.
func modelShifted(p []int, by int) []int {
	q := make([]int, len(p))
	for i, coef := range p {
		power := []int{1}
		for range len(p) - 1 - i {
			power = product(power, []int{1, by})
		}
		for k, b := range power {
			q[i+k] += coef * b
		}
	}
	return q
}

// modelMargin returns the margin of a polynomial, or -1.
func modelMargin(p []int) int {
	margin := -1
	for m := range 11 {
		if q := modelShifted(p, -m); valid(q) && modelStable(q) {
			margin = m
		}
	}
	return margin
}

// randomBox returns a box without an error around a polynomial.
func randomBox(r *rand.Rand, p []int) api.GovernorBox {
	var b api.GovernorBox
	width := chosen(r, 0, 1, 3, 20)
	for i, coef := range p {
		lo, hi := coef-r.IntN(width+1), coef+r.IntN(width+1)
		if i == 0 {
			lo = max(lo, 1)
		}
		b.Coefs = append(b.Coefs, api.Range{Lo: max(lo, -1000), Hi: min(hi, 1000)})
	}
	return b
}

// inside returns a polynomial in a box, often one with ends of its ranges.
func inside(r *rand.Rand, b api.GovernorBox) []int {
	var p []int
	for _, x := range b.Coefs {
		p = append(p, chosen(r, x.Lo, x.Hi, between(r, x.Lo, x.Hi)))
	}
	return p
}

// modelCorner returns the polynomial whose coefficients of the degrees turn, turn + 1 (by 4) are Lo, and the others Hi.
func modelCorner(b api.GovernorBox, turn int) []int {
	p := make([]int, len(b.Coefs))
	for i, x := range b.Coefs {
		degree := len(b.Coefs) - 1 - i
		p[i] = x.Hi
		if (degree+4-turn)%4 < 2 {
			p[i] = x.Lo
		}
	}
	return p
}

// randomLoop returns a loop without an error.
func randomLoop(r *rand.Rand) api.GovernorLoop {
	for {
		l := api.GovernorLoop{Common: randomPolynomial(r, between(r, 1, 4))}
		if r.IntN(2) == 0 {
			l.Common = stablePolynomial(r, between(r, 1, 4))
		}
		most := chosen(r, 1, 3, 10, 100)
		for range r.IntN(7) {
			machine := make([]int, len(l.Common))
			for i := range machine {
				machine[i] = chosen(r, 0, between(r, -most, most))
			}
			l.Machines = append(l.Machines, machine)
		}
		if e := modelSums(l); e == api.OK {
			return l
		}
	}
}

// slowLoop returns a loop of degree 1 or 2 whose machines take away from its last coefficient, so that mostly several of them are needed until it is not stable.
func slowLoop(r *rand.Rand) api.GovernorLoop {
	most := between(r, 1, 3)
	l := api.GovernorLoop{Common: []int{1, between(r, 1, 5*most)}}
	if r.IntN(2) == 0 {
		l.Common = slices.Insert(l.Common, 1, between(r, 1, 9))
	}
	for range chosen(r, 6, r.IntN(7)) {
		machine := make([]int, len(l.Common))
		machine[len(machine)-1] = -between(r, 0, most)
		l.Machines = append(l.Machines, machine)
	}
	return l
}

// modelSums returns the error of the sums of a loop, which is found by adding up all sets.
func modelSums(l api.GovernorLoop) api.Errno {
	for _, set := range allSets(len(l.Machines)) {
		if modelSum(l, set)[0] <= 0 {
			return api.ErrForm
		}
	}
	for i, coef := range l.Common {
		most := size(coef)
		for _, machine := range l.Machines {
			most += size(machine[i])
		}
		if most > 1000 {
			return api.ErrLarge
		}
	}
	return api.OK
}

func modelSum(l api.GovernorLoop, set []int) []int {
	sum := slices.Clone(l.Common)
	for i := range sum {
		for _, machine := range set {
			sum[i] += l.Machines[machine][i]
		}
	}
	return sum
}

// allSets returns all sets of numbers, in the order of minimum sets.
func allSets(numbers int) [][]int {
	var sets [][]int
	for bits := range 1 << numbers {
		set := []int{}
		for n := range numbers {
			if bits>>n&1 == 1 {
				set = append(set, n)
			}
		}
		sets = append(sets, set)
	}
	slices.SortFunc(sets, func(a, b []int) int {
		return cmp.Or(cmp.Compare(len(a), len(b)), slices.Compare(a, b))
	})
	return sets
}

// modelShares divides a load with fractions of any size.
func modelShares(droops []int, load int) []*big.Rat {
	sum := new(big.Rat)
	for _, droop := range droops {
		sum.Add(sum, big.NewRat(1, int64(droop)))
	}
	var shares []*big.Rat
	for _, droop := range droops {
		share := new(big.Rat).Quo(big.NewRat(int64(load), int64(droop)), sum)
		shares = append(shares, share)
	}
	return shares
}

// modelVote returns the vote of channels without an error of their own.
func modelVote(x [3]api.GovernorReading, tolerance int) (api.GovernorVote, api.Errno) {
	var there []int
	for _, r := range x {
		if !r.Missing {
			there = append(there, r.Value)
		}
	}
	slices.Sort(there)
	switch {
	case len(there) < 2:
		return api.GovernorVote{}, api.ErrGap
	case len(there) == 2:
		if there[1]-there[0] > tolerance {
			return api.GovernorVote{}, api.ErrClash
		}
		middle := there[0]
		for 2*(middle+1) <= there[0]+there[1] {
			middle++
		}
		return api.GovernorVote{Value: middle}, api.OK
	}
	below, above := there[1]-there[0] > tolerance, there[2]-there[1] > tolerance
	if below && above {
		return api.GovernorVote{}, api.ErrClash
	}
	vote := api.GovernorVote{Value: there[1]}
	for i, r := range x {
		vote.Odd[i] = below && r.Value == there[0] || above && r.Value == there[2]
	}
	return vote, api.OK
}
