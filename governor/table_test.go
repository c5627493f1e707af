package governor_test

import (
	"math"
	"reflect"
	"slices"
	"testing"

	"guidevane/api"
	"guidevane/governor"
)

// sameTable tells whether tables have the same rows.
func sameTable(a, b [][]int) bool {
	return slices.EqualFunc(a, b, slices.Equal[[]int])
}

// P6.3, example 2, and the edge cases of rows.
func TestTableOf(t *testing.T) {
	for _, c := range []struct {
		p    []int
		want [][]int
	}{
		{goodPolynomial(), [][]int{{1, 3}, {2, 1}, {1}, {1}}}, {[]int{1, 1, 1, 3}, [][]int{{1, 1}, {1, 3}, {-1}}},
		{[]int{2, 4, 6, 2}, [][]int{{1, 3}, {2, 1}, {1}, {1}}}, {[]int{3, 4, 6, 2}, [][]int{{1, 2}, {2, 1}, {1}, {1}}}, {[]int{1, 4, 3, 8}, [][]int{{1, 3}, {1, 2}, {1}, {1}}},
		{[]int{1, 1}, [][]int{{1}, {1}}}, {[]int{7, 5}, [][]int{{1}, {1}}}, {[]int{7, 0}, [][]int{{1}, {0}}}, {[]int{7, -5}, [][]int{{1}, {-1}}},
		{[]int{3, 5, 9}, [][]int{{1, 3}, {1}, {1}}}, {[]int{3, 5, 0}, [][]int{{1, 0}, {1}, {0}}}, {[]int{3, 5, -7}, [][]int{{3, -7}, {1}, {-1}}}, {[]int{1, 0, 1}, [][]int{{1, 1}, {0}}}, {[]int{1, -2, 1}, [][]int{{1, 1}, {-1}}},
		{[]int{1, 0, 1, 0}, [][]int{{1, 1}, {0, 0}}}, {[]int{1, 0, 1, 6}, [][]int{{1, 1}, {0, 1}}}, {[]int{1, -2, 1, 6}, [][]int{{1, 1}, {-1, 3}}}, {[]int{1, 2, 1, 2}, [][]int{{1, 1}, {1, 1}, {0}}}, {[]int{1, 2, 1, 0}, [][]int{{1, 1}, {1, 0}, {1}, {0}}}, {[]int{1, 2, 1, -3}, [][]int{{1, 1}, {2, -3}, {1}, {-1}}},
		{[]int{1, 4, 6, 4, 1}, [][]int{{1, 6, 1}, {1, 1}, {5, 1}, {1}, {1}}}, {[]int{1, 1, 1, 1, 1}, [][]int{{1, 1, 1}, {1, 1}, {0, 1}}}, {[]int{1, 1, 2, 3, 1}, [][]int{{1, 2, 1}, {1, 3}, {-1, 1}}}, {[]int{1, 2, 3, 2, 5}, [][]int{{1, 3, 5}, {1, 1}, {2, 5}, {-1}}}, {[]int{1, 2, 3, 2, 2}, [][]int{{1, 3, 2}, {1, 1}, {1, 1}, {0}}},
		{[]int{1, 4, 6, 4, 0}, [][]int{{1, 6, 0}, {1, 1}, {1, 0}, {1}, {0}}}, {[]int{1, 4, 6, 4, -1}, [][]int{{1, 6, -1}, {1, 1}, {5, -1}, {1}, {-1}}}, {[]int{2, 4, 6, 8, 10}, [][]int{{1, 3, 5}, {1, 2}, {1, 5}, {-1}}}, {[]int{1, 0, 0, 0, 0}, [][]int{{1, 0, 0}, {0, 0}}}, {[]int{1, -3, 0, 6, 0}, [][]int{{1, 0, 0}, {-1, 2}}},
		{[]int{1000, 999, 998, 997, 7}, [][]int{{1000, 998, 7}, {999, 997}, {2, 6993}, {-1}}}, {[]int{1, 1000, 1000, 999, 1}, [][]int{{1, 1000, 1}, {1000, 999}, {999001, 1000}, {1}, {1}}},
	} {
		if rows, e := governor.TableOf(c.p); !sameTable(rows, c.want) || e != api.OK {
			t.Error(c, rows, e)
		}
		if rows := modelTable(c.p); !sameTable(rows, c.want) {
			t.Error(c, rows)
		}
	}
}

// P6.3: tables of random polynomials, and of all small ones.
func TestTablesAgainstModel(t *testing.T) {
	r := random(11)
	var lengths [6]int
	for range 20000 {
		p := randomPolynomial(r, between(r, 1, 4))
		rows, e := governor.TableOf(p)
		if !sameTable(rows, modelTable(p)) || e != api.OK {
			t.Fatal(p, rows, e)
		}
		if len(p) == 5 {
			lengths[len(rows)]++
		}
		// A row of one entry is 1, -1 or 0; only the last row may begin with a number that is not above 0.
		for k, row := range rows {
			if len(row) == 1 && size(row[0]) > 1 || row[0] <= 0 && k < len(rows)-1 || len(row) != (len(p)-1-k)/2+1 {
				t.Fatal(p, rows)
			}
		}
	}
	if slices.Min(lengths[2:]) < 100 {
		t.Error(lengths)
	}
}

// everyPolynomial calls a function with all polynomials of degrees up to 4 whose coefficients lie in a range.
func everyPolynomial(lo, hi int, visit func(p []int)) {
	var grow func(p []int)
	grow = func(p []int) {
		if len(p) >= 2 {
			visit(p)
		}
		for n := lo; n <= hi && len(p) < 5; n++ {
			if len(p) > 0 || n > 0 {
				grow(append(slices.Clone(p), n))
			}
		}
	}
	grow(nil)
}

// P6.3, and the edge cases that a polynomial with a coefficient that is not above 0, or with the root 0, is not stable.
func TestIsStable(t *testing.T) {
	for _, c := range []struct {
		p    []int
		want bool
	}{
		{goodPolynomial(), true}, {[]int{1, 1, 1, 3}, false}, {[]int{1, 1}, true}, {[]int{1, 0}, false}, {[]int{1, -1}, false}, {[]int{1, 0, 1}, false}, {[]int{1, 1, 0}, false}, {[]int{1, 4, 6, 4, 1}, true}, {[]int{1, 1, 1, 1, 1}, false}, {[]int{1, 1, 1, 1}, false}, {[]int{1, 1, 2, 1}, true}, {[]int{1, 1, 2, 2}, false}, {[]int{1, 1, 2, 3}, false}, {[]int{1, 2, 3, 2, 1}, true}, {[]int{1, 2, 3, 2, 2}, false}, {[]int{1, 2, 3, 2, 3}, false},
		{[]int{1000, 1000, 1000, 999}, true}, {[]int{1000, 1000, 1000, 1000}, false}, {[]int{1, 1000, 1000, 1000, 1000}, false}, {[]int{1, 1000, 1000, 1000, 998}, true}, {[]int{1, 1000, 1000, 1000, 999}, false},
	} {
		if is, e := governor.IsStable(c.p); is != c.want || e != api.OK {
			t.Error(c, is, e)
		}
	}
	stable := 0
	everyPolynomial(-1, 5, func(p []int) {
		is, e := governor.IsStable(p)
		if is != modelStable(p) || e != api.OK {
			t.Fatal(p, is, e)
		}
		if is {
			stable++
		}
	})
	if stable < 500 {
		t.Error(stable)
	}
	r := random(12)
	for range 20000 {
		p := randomPolynomial(r, between(r, 1, 4))
		if is, e := governor.IsStable(p); is != modelStable(p) || e != api.OK {
			t.Fatal(p, is, e)
		}
	}
}

// P6.3: a polynomial of known roots is stable exactly if all real parts are below 0.
func TestStableByRoots(t *testing.T) {
	r := random(13)
	stable := 0
	for range 20000 {
		p, below := []int{between(r, 1, 3)}, true
		for left := between(r, 1, 4); left > 0; {
			a, b := between(r, -1, 5), r.IntN(4)
			below = below && a > 0
			if left > 1 && r.IntN(2) == 0 {
				p, left = product(p, []int{1, 2 * a, a*a + b*b}), left-2
			} else {
				p, left = product(p, []int{1, a}), left-1
			}
		}
		if !valid(p) {
			continue
		}
		if is, e := governor.IsStable(p); is != below || e != api.OK {
			t.Fatal(p, is, e)
		}
		if below {
			stable++
		}
	}
	if stable < 2000 {
		t.Error(stable)
	}
}

// P6.3 and example 2.
func TestCheckTable(t *testing.T) {
	good := [][]int{{1, 3}, {2, 1}, {1}, {1}}
	for _, c := range []struct {
		p    []int
		rows [][]int
		row  int
		want api.Errno
	}{
		{goodPolynomial(), good, 0, api.OK}, {[]int{2, 4, 6, 2}, good, 0, api.OK}, {[]int{1, 1}, [][]int{{1}, {1}}, 0, api.OK}, {[]int{1, 4, 6, 4, 1}, [][]int{{1, 6, 1}, {1, 1}, {5, 1}, {1}, {1}}, 0, api.OK},
		{goodPolynomial(), nil, 0, api.ErrShape}, {goodPolynomial(), good[:3], 0, api.ErrShape}, {goodPolynomial(), append(slices.Clone(good), []int{1}), 0, api.ErrShape}, {goodPolynomial(), [][]int{{1, 4}, {2, 1}, {1}}, 0, api.ErrShape}, {[]int{1, 1, 1, 3}, [][]int{{1, 1}, {1, 3}, {-1}}, 0, api.ErrShape}, {goodPolynomial(), make([][]int, 100), 0, api.ErrShape},
		{goodPolynomial(), make([][]int, 4), 0, api.ErrProof}, {goodPolynomial(), [][]int{{1, 3, 0}, {2, 1}, {1}, {1}}, 0, api.ErrProof}, {goodPolynomial(), [][]int{{1}, {2, 1}, {1}, {1}}, 0, api.ErrProof}, {goodPolynomial(), [][]int{{2, 6}, {2, 1}, {1}, {1}}, 0, api.ErrProof}, {goodPolynomial(), [][]int{{1, 3}, {2, 1}, {5}, {1}}, 2, api.ErrProof},
		{[]int{2, 4, 6, 2}, [][]int{{2, 6}, {4, 2}, {1}, {1}}, 0, api.ErrProof}, {[]int{2, 4, 6, 2}, [][]int{{1, 3}, {4, 2}, {1}, {1}}, 1, api.ErrProof}, {goodPolynomial(), [][]int{{1, 3}, {2, 1}, {1, 0}, {1}}, 2, api.ErrProof}, {goodPolynomial(), [][]int{{1, 3}, {2, 1}, {1}, {}}, 3, api.ErrProof}, {goodPolynomial(), [][]int{{1, 3}, {2, 1}, {1}, {1, 1}}, 3, api.ErrProof}, {goodPolynomial(), [][]int{{1, 3}, nil, {1}, nil}, 1, api.ErrProof},
		{goodPolynomial(), [][]int{{math.MinInt, math.MaxInt}, {2, 1}, {1}, {1}}, 0, api.ErrProof},
		{[]int{1, 1, 1, 3}, [][]int{{1, 1}, {1, 3}, {-1}, {1}}, 2, api.ErrProof}, {[]int{1, 1, 1, 3}, [][]int{{1, 1}, {1, 3}, {-1}, {3}}, 2, api.ErrProof}, {[]int{1, 1, 1, 3}, [][]int{{1, 1}, {1, 3}, {1}, {1}}, 2, api.ErrProof}, {[]int{1, 1, 1, 3}, [][]int{{1, 1}, {1, 1}, {-1}, {1}}, 1, api.ErrProof},
		{[]int{1, 0}, [][]int{{1}, {0}}, 1, api.ErrProof}, {[]int{1, -1}, [][]int{{1}, {-1}}, 1, api.ErrProof}, {[]int{1, -1}, [][]int{{1}, {1}}, 1, api.ErrProof}, {[]int{1, 1, 0}, [][]int{{1, 0}, {1}, {0}}, 2, api.ErrProof}, {[]int{1, 0, 1}, [][]int{{1, 1}, {0}, {1}}, 1, api.ErrProof}, {[]int{1, 1, 1, 1, 1}, [][]int{{1, 1, 1}, {1, 1}, {0, 1}, {1}, {1}}, 2, api.ErrProof},
	} {
		if row, e := governor.CheckTable(c.p, c.rows); row != c.row || e != c.want {
			t.Error(c, row, e)
		}
	}
}

// P6.3: the table is accepted exactly if the polynomial is stable, and no other one is.
func TestTablesAsProofs(t *testing.T) {
	r := random(14)
	rejected := 0
	for range 10000 {
		p := randomPolynomial(r, between(r, 1, 4))
		if r.IntN(2) == 0 {
			p = stablePolynomial(r, between(r, 1, 4))
		}
		rows := modelTable(p)
		last := len(rows) - 1
		// A table that ends too early is filled up with good rows.
		for len(rows) < len(p) {
			rows = append(rows, make([]int, (len(p)-1-len(rows))/2+1))
			rows[len(rows)-1][0] = 1
		}
		row, want := 0, api.OK
		if !modelStable(p) {
			row, want = last, api.ErrProof
			rejected++
		}
		if at, e := governor.CheckTable(p, rows); at != row || e != want {
			t.Fatal(p, rows, at, e)
		}
		k := r.IntN(last + 1)
		rows[k][r.IntN(len(rows[k]))] += chosen(r, -1, 1, 5)
		if at, e := governor.CheckTable(p, rows); at != k || e != api.ErrProof {
			t.Fatal(p, rows, k, at, e)
		}
	}
	if rejected < 1000 {
		t.Error(rejected)
	}
}

// P6.10: the quadrants of a stable polynomial never decrease, and are less than its degree; its coefficients are all above 0.
func TestQuadrantsOfStable(t *testing.T) {
	r := random(15)
	var seen [4]int
	for range 10000 {
		p := stablePolynomial(r, between(r, 1, 4))
		if is, e := governor.IsStable(p); !is || e != api.OK || slices.Min(p) <= 0 {
			t.Fatal(p, is, e)
		}
		grid := randomGrid(r)
		grid[0] = 0
		l, e := governor.QuadrantsOf(p, grid)
		if e != api.OK || len(l) != len(grid) || !slices.IsSorted(l) || slices.Max(l) >= len(p)-1 {
			t.Fatal(p, grid, l, e)
		}
		seen[slices.Max(l)]++
	}
	if slices.Min(seen[:]) < 100 {
		t.Error(seen)
	}
}

// P6.10: of all polynomials those with quadrants that decrease, or are too great, or with a coefficient that is not above 0, are not stable.
func TestUnstableByQuadrants(t *testing.T) {
	grid := []int{0, 1, 2, 3, 4, 5, 6, 7, 8, 9, 10, 20, 1000}
	found := 0
	everyPolynomial(-2, 4, func(p []int) {
		is, _ := governor.IsStable(p)
		l, e := governor.QuadrantsOf(p, grid)
		if wrong := e != api.OK || !slices.IsSorted(l) || slices.Max(l) >= len(p)-1 || slices.Min(p) <= 0; wrong {
			found++
			if is {
				t.Fatal(p, l, e)
			}
		}
	})
	if found < 1000 {
		t.Error(found)
	}
}

// P6.10: a polynomial whose coefficients are multiplied by a number above 0 has the same table.
func TestTablesOfMultiples(t *testing.T) {
	r := random(16)
	multiples := 0
	for range 20000 {
		p, factor := randomPolynomial(r, between(r, 1, 4)), between(r, 2, chosen(r, 3, 10, 300))
		q := slices.Clone(p)
		for i := range q {
			q[i] *= factor
		}
		if !valid(q) {
			continue
		}
		multiples++
		a, e := governor.TableOf(p)
		b, f := governor.TableOf(q)
		if !reflect.DeepEqual(a, b) || e != api.OK || f != api.OK {
			t.Fatal(p, factor, a, b)
		}
	}
	if multiples < 5000 {
		t.Error(multiples)
	}
}

// P6.11.
func TestProductsOfPolynomials(t *testing.T) {
	r := random(17)
	var counts [2]int
	for range 30000 {
		degree := between(r, 1, 3)
		factors := [2][]int{randomPolynomial(r, degree), randomPolynomial(r, between(r, 1, 4-degree))}
		for i, p := range factors {
			if r.IntN(2) == 0 {
				factors[i] = stablePolynomial(r, len(p)-1)
			}
		}
		p := product(factors[0], factors[1])
		if !valid(p) {
			continue
		}
		a, _ := governor.IsStable(factors[0])
		b, _ := governor.IsStable(factors[1])
		both, e := governor.IsStable(p)
		if both != (a && b) || e != api.OK {
			t.Fatal(factors, both, e)
		}
		if both {
			counts[1]++
		} else {
			counts[0]++
		}
	}
	if slices.Min(counts[:]) < 2000 {
		t.Error(counts)
	}
}
