package dam_test

import (
	"math"
	"math/big"
	"math/rand/v2"
	"reflect"
	"slices"
	"strconv"

	"guidevane/api"
)

// This file computes what the chapter defines once more: fits by elimination with fractions of any size, and covers by trying all sets. Its readings, rules, instruments and valleys are made at random, but the same ones in every run.

func random(seed uint64) *rand.Rand {
	return rand.New(rand.NewPCG(seed, 9))
}

func between(r *rand.Rand, lo, hi int) int {
	return lo + r.IntN(hi-lo+1)
}

func chosen[T any](r *rand.Rand, l ...T) T {
	return l[r.IntN(len(l))]
}

func call(results ...any) []any {
	return results
}

// failed tells whether results are zero, except for the last one, which is an error.
func failed(results []any, want api.Errno) bool {
	last := len(results) - 1
	for _, result := range results[:last] {
		v := reflect.ValueOf(result)
		if !v.IsZero() && (v.Kind() != reflect.Slice || v.Len() > 0) {
			return false
		}
	}
	return results[last] == want
}

// outside is numbers around a range that are not in it.
func outside(lo, hi int) []int {
	return []int{lo - 1, hi + 1, lo - 2, hi + 1000, math.MinInt, math.MinInt + 1, math.MaxInt}
}

// badNames are no names.
func badNames() []string {
	return []string{"", " ", "abcdefghijklm", "1a", "-", "-a", "a b", " a", "a ", "a_", "a\u00e9", "\u00e9", "@", "[", "`", "{", "a@", "a[", "a`", "a{", "a/", "a:", "a\x00", "a;", "a,", "\xff"}
}

// goodNames are names.
func goodNames() []string {
	return []string{"a", "z", "A", "Z", "a-", "a0", "a9", "abcdefghijkl", "A-1-2-3-4-5-", "aa"}
}

// names returns so many names.
func names(n int) []string {
	var l []string
	for i := range n {
		l = append(l, "n"+strconv.Itoa(i))
	}
	return l
}

// randomReadings returns readings without errors: of the whole range or of a part of it, so that some of them leave no fit.
func randomReadings(r *rand.Rand) []api.DamReading {
	firstDay := chosen(r, 0, 0, 3000, api.MaxDamDay-900)
	days, levels, movements := chosen(r, 1, 100, 360, 900, api.MaxDamDay-firstDay), chosen(r, 0, 1, 10, api.MaxDamLevel), chosen(r, 1, 100, api.MaxDamMovement)
	var l []api.DamReading
	for range between(r, 1, api.MaxDamReadings) {
		l = append(l, api.DamReading{Day: between(r, firstDay, firstDay+days), Level: between(r, -levels, levels), Movement: between(r, -movements, movements)})
	}
	return l
}

// wideReadings returns readings all over their ranges, which often have fits that are too large.
func wideReadings(r *rand.Rand) []api.DamReading {
	var l []api.DamReading
	for range api.MaxDamReadings {
		l = append(l, api.DamReading{Day: between(r, 15000, api.MaxDamDay), Level: between(r, -api.MaxDamLevel, api.MaxDamLevel), Movement: between(r, -api.MaxDamMovement, api.MaxDamMovement)})
	}
	return l
}

// extremeReadings returns readings with numbers at the ends of their ranges alone.
func extremeReadings(r *rand.Rand) []api.DamReading {
	var l []api.DamReading
	for range between(r, 5, api.MaxDamReadings) {
		l = append(l, api.DamReading{Day: chosen(r, 0, 90, 180, 270, 35640, 35730, 35820, 35999, api.MaxDamDay), Level: chosen(r, -api.MaxDamLevel, api.MaxDamLevel), Movement: chosen(r, -api.MaxDamMovement, api.MaxDamMovement)})
	}
	return l
}

func modelTerms(x api.DamReading) [5]int {
	seasons := [4][2]int{{1, 0}, {0, 1}, {-1, 0}, {0, -1}}
	day, years := x.Day, 0
	for day >= 360 {
		day -= 360
		years++
	}
	season := seasons[day/90]
	return [5]int{1, x.Level, season[0], season[1], years}
}

// termsIn returns the terms that a model chooses.
func termsIn(model int) []int {
	var l []int
	for i, digit := range slices.Backward([]byte(strconv.FormatInt(int64(model|32), 2))) {
		if term := 5 - i; term < 5 && digit == '1' {
			l = append(l, term)
		}
	}
	return l
}

func rat(n int) *big.Rat {
	return big.NewRat(int64(n), 1)
}

// modelRows returns the equations of a model, each one with its right side at the end.
func modelRows(l []api.DamReading, terms []int) [][]*big.Rat {
	var rows [][]*big.Rat
	for _, a := range terms {
		sums := make([]int, len(terms)+1)
		for _, x := range l {
			t := modelTerms(x)
			for i, b := range terms {
				sums[i] += t[a] * t[b]
			}
			sums[len(terms)] += t[a] * x.Movement
		}
		var row []*big.Rat
		for _, n := range sums {
			row = append(row, rat(n))
		}
		rows = append(rows, row)
	}
	return rows
}

// modelSolution eliminates all unknowns, and tells whether there is exactly one solution.
func modelSolution(rows [][]*big.Rat) ([]*big.Rat, bool) {
	for i := range rows {
		pivot := slices.IndexFunc(rows[i:], func(row []*big.Rat) bool { return row[i].Sign() != 0 })
		if pivot < 0 {
			return nil, false
		}
		rows[i], rows[i+pivot] = rows[i+pivot], rows[i]
		for k, row := range rows {
			factor := new(big.Rat).Quo(row[i], rows[i][i])
			for c := range row {
				if k != i {
					row[c] = new(big.Rat).Sub(row[c], new(big.Rat).Mul(factor, rows[i][c]))
				}
			}
		}
	}
	var l []*big.Rat
	for i, row := range rows {
		l = append(l, new(big.Rat).Quo(row[len(rows)], row[i]))
	}
	return l, true
}

// modelFit returns the reduced fit. (The least common denominator of fractions in lowest terms leaves nothing that divides all.)
func modelFit(l []api.DamReading, model int) (api.DamFit, api.Errno) {
	terms := termsIn(model)
	solution, ok := modelSolution(modelRows(l, terms))
	if !ok {
		return api.DamFit{}, api.ErrNone
	}
	den := big.NewInt(1)
	for _, c := range solution {
		common := new(big.Int).GCD(nil, nil, den, c.Denom())
		den.Mul(den, new(big.Int).Div(c.Denom(), common))
	}
	f := api.DamFit{Den: int(den.Int64())}
	limit := big.NewInt(api.MaxDamFit)
	isLarge := den.Cmp(limit) > 0
	for i, c := range solution {
		part := new(big.Rat).Mul(c, new(big.Rat).SetInt(den)).Num()
		isLarge = isLarge || part.CmpAbs(limit) > 0
		f.Parts[terms[i]] = int(part.Int64())
	}
	if isLarge {
		return api.DamFit{}, api.ErrLarge
	}
	return f, api.OK
}

// modelSum returns what terms add to the movement, by a fit.
func modelSum(f api.DamFit, x api.DamReading, terms ...int) *big.Rat {
	sum := new(big.Rat)
	for _, term := range terms {
		sum.Add(sum, new(big.Rat).Mul(rat(f.Parts[term]), rat(modelTerms(x)[term])))
	}
	return sum.Quo(sum, rat(f.Den))
}

func modelResidual(f api.DamFit, x api.DamReading) *big.Rat {
	return new(big.Rat).Sub(rat(x.Movement), modelSum(f, x, 0, 1, 2, 3, 4))
}

// modelSquares returns the sum of the squares of all residuals.
func modelSquares(l []api.DamReading, f api.DamFit) *big.Rat {
	sum := new(big.Rat)
	for _, x := range l {
		residual := modelResidual(f, x)
		sum.Add(sum, residual.Mul(residual, residual))
	}
	return sum
}

func modelRounded(n *big.Rat) api.Range {
	lo := int(new(big.Int).Div(n.Num(), n.Denom()).Int64())
	if n.IsInt() {
		return api.Range{Lo: lo, Hi: lo}
	}
	return api.Range{Lo: lo, Hi: lo + 1}
}

func modelSpread(l []api.DamReading, f api.DamFit) int {
	most := 0
	for _, x := range l {
		residual := modelRounded(modelResidual(f, x))
		for _, end := range []int{residual.Lo, residual.Hi} {
			if end < 0 {
				end = -end
			}
			most = max(most, end)
		}
	}
	return most
}

// modelCheck is what CheckFit returns of a fit within its limits.
func modelCheck(l []api.DamReading, model int, f api.DamFit) (int, api.Errno) {
	terms := termsIn(model)
	for term, part := range f.Parts {
		if part != 0 && !slices.Contains(terms, term) {
			return term, api.ErrForm
		}
	}
	divisor := big.NewInt(int64(f.Den))
	for _, part := range f.Parts {
		divisor.GCD(nil, nil, divisor, new(big.Int).Abs(big.NewInt(int64(part))))
	}
	if divisor.Cmp(big.NewInt(1)) != 0 {
		return 0, api.ErrForm
	}
	for _, term := range terms {
		sum := new(big.Rat)
		for _, x := range l {
			sum.Add(sum, new(big.Rat).Mul(rat(modelTerms(x)[term]), modelResidual(f, x)))
		}
		if sum.Sign() != 0 {
			return term, api.ErrProof
		}
	}
	return 0, api.OK
}

// randomFit returns a fit within its limits, which need not be one of any readings.
func randomFit(r *rand.Rand) api.DamFit {
	size := chosen(r, 1, 10, 1000, 1000000, api.MaxDamFit)
	f := api.DamFit{Den: chosen(r, 1, between(r, 1, 10), between(r, 1, size), api.MaxDamFit)}
	for i := range f.Parts {
		f.Parts[i] = chosen(r, between(r, -size, size), between(r, -size, size), -size, size, 0)
	}
	return f
}

// randomRules returns rules without errors.
func randomRules(r *rand.Rand) api.DamRules {
	rules := api.DamRules{Hold: chosen(r, 0, 1, 2, between(r, 0, 20), api.MaxDamCalm)}
	for step, size := between(r, 1, api.MaxDamSteps), chosen(r, 3, 30, 200000); len(rules.Up) < step; {
		up, down := between(r, 1, size), 1
		if n := len(rules.Up); n > 0 {
			up, down = up+rules.Up[n-1], rules.Down[n-1]
		}
		rules.Up, rules.Down = append(rules.Up, up), append(rules.Down, between(r, down, up))
	}
	for _, name := range names(r.IntN(api.MaxDamPersons + 1)) {
		rules.Persons = append(rules.Persons, api.DamPerson{Name: name, Rank: between(r, 1, len(rules.Up))})
	}
	return rules
}

// randomDeviation returns a deviation, often one at the limit of a step.
func randomDeviation(r *rand.Rand, rules api.DamRules) int {
	step := r.IntN(len(rules.Up))
	d := chosen(r, 0, rules.Up[step], rules.Up[step]-1, rules.Up[step]+1, rules.Down[step], rules.Down[step]-1, between(r, 0, rules.Up[step]))
	return min(d, api.MaxDamDeviation)
}

// modelAsked returns the step that a deviation asks for.
func modelAsked(r api.DamRules, deviation int) int {
	for k := len(r.Up); k > 0; k-- {
		if r.Up[k-1] <= deviation {
			return k
		}
	}
	return 0
}

func modelWatched(r api.DamRules, s api.DamState, deviation int) api.DamState {
	if asked := modelAsked(r, deviation); asked > s.Step {
		return api.DamState{Step: asked, Deviation: deviation}
	}
	switch {
	case s.Step == 0 || deviation >= r.Down[s.Step-1]:
		s.Calm = 0
	case s.Calm < api.MaxDamCalm:
		s.Calm++
	}
	s.Deviation = deviation
	return s
}

// modelLowered is what Lowered returns for rules and a state without errors, and the name of a person.
func modelLowered(r api.DamRules, s api.DamState, x api.DamOrder) (api.DamState, api.Errno) {
	ranks := map[string]int{}
	for _, p := range r.Persons {
		ranks[p.Name] = p.Rank
	}
	if ranks[x.By] == 0 {
		return api.DamState{}, api.ErrMissing
	}
	if x.Step < 0 || x.Step > s.Step-1 {
		return api.DamState{}, api.ErrRange
	}
	if ranks[x.By] < s.Step {
		return api.DamState{}, api.ErrAllowed
	}
	for k := x.Step + 1; k <= len(r.Down); k++ {
		if s.Deviation >= r.Down[k-1] {
			return api.DamState{}, api.ErrRefused
		}
	}
	if s.Calm < r.Hold {
		return api.DamState{}, api.ErrRefused
	}
	return api.DamState{Step: x.Step, Deviation: s.Deviation}, api.OK
}

// randomGauges returns instruments without errors.
func randomGauges(r *rand.Rand) []api.DamGauge {
	size := chosen(r, 5, 30, api.MaxDamValue)
	width := chosen(r, 0, 3, size, 2*size)
	ends := func() api.Range {
		lo := between(r, -size, size)
		return api.Range{Lo: lo, Hi: min(lo+between(r, 0, width), size)}
	}
	var l []api.DamGauge
	for _, name := range names(between(r, 1, api.MaxDamGauges)) {
		g := api.DamGauge{Name: name, Value: ends()}
		if r.IntN(2) == 0 {
			g.Shift = ends()
		}
		l = append(l, g)
	}
	return l
}

// mayShow returns whether an instrument may show what it does if the true value is n: some shift adds up with it to a value that is shown.
func mayShow(g api.DamGauge, n int) bool {
	return n+g.Shift.Hi >= g.Value.Lo && n+g.Shift.Lo <= g.Value.Hi
}

// randomValley returns a valley without errors.
func randomValley(r *rand.Rand, sirens, houses int) api.DamValley {
	size := chosen(r, 5, 20, 60, 1000, api.MaxDamValue)
	var v api.DamValley
	for range r.IntN(sirens + 1) {
		v.Sirens = append(v.Sirens, api.DamSiren{At: between(r, 0, size), Reach: chosen(r, 0, between(r, 0, 3), between(r, 0, 1+size/4))})
	}
	for range r.IntN(houses + 1) {
		if len(v.Sirens) == 0 || r.IntN(40) == 0 {
			v.Houses = append(v.Houses, between(r, 0, size))
			continue
		}
		s := chosen(r, v.Sirens...)
		v.Houses = append(v.Houses, min(max(0, s.At+chosen(r, -s.Reach, s.Reach, between(r, -s.Reach, s.Reach))), api.MaxDamValue))
	}
	return v
}

func modelHears(v api.DamValley, siren, house int) bool {
	distance := v.Houses[house] - v.Sirens[siren].At
	return max(distance, -distance) <= v.Sirens[siren].Reach
}

func isCover(v api.DamValley, sirens []int) bool {
	for house := range v.Houses {
		if !slices.ContainsFunc(sirens, func(siren int) bool { return modelHears(v, siren, house) }) {
			return false
		}
	}
	return true
}

func isPacking(v api.DamValley, houses []int) bool {
	for siren := range v.Sirens {
		heard := 0
		for _, house := range houses {
			if modelHears(v, siren, house) {
				heard++
			}
		}
		if heard > 1 {
			return false
		}
	}
	return true
}

// modelCover tries all sets of so many sirens, then of one more, and so on, of each size the lexicographically first one first.
func modelCover(v api.DamValley) ([]int, bool) {
	for size := range len(v.Sirens) + 1 {
		if cover, ok := coverOfSize(v, size, nil); ok {
			return cover, true
		}
	}
	return nil, false
}

func coverOfSize(v api.DamValley, size int, begin []int) ([]int, bool) {
	if size == 0 {
		return begin, isCover(v, begin)
	}
	next := 0
	if len(begin) > 0 {
		next = begin[len(begin)-1] + 1
	}
	for ; next < len(v.Sirens); next++ {
		if cover, ok := coverOfSize(v, size-1, append(slices.Clone(begin), next)); ok {
			return cover, true
		}
	}
	return nil, false
}
