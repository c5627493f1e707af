package dam_test

import (
	"slices"
	"testing"

	"guidevane/api"
	"guidevane/dam"
)

// exampleValley is the valley of the examples.
func exampleValley() api.DamValley {
	return api.DamValley{Sirens: []api.DamSiren{{At: 10, Reach: 10}, {At: 30, Reach: 10}, {At: 55, Reach: 15}}, Houses: []int{5, 20, 40, 60}}
}

type badValley struct {
	valley api.DamValley
	index  int
	want   api.Errno
}

// badValleys returns valleys for each error of CheckValley, and for orders of two errors.
func badValleys() []badValley {
	var l []badValley
	for _, n := range []int{21, 22, 1000} {
		l = append(l, badValley{api.DamValley{Sirens: make([]api.DamSiren, n)}, 0, api.ErrLarge})
		l = append(l, badValley{api.DamValley{Sirens: slices.Repeat([]api.DamSiren{{At: -1}}, n), Houses: []int{-1}}, 0, api.ErrLarge})
	}
	for _, n := range []int{41, 42, 1000} {
		l = append(l, badValley{api.DamValley{Sirens: []api.DamSiren{{Reach: 5}}, Houses: make([]int, n)}, 0, api.ErrLarge})
		l = append(l, badValley{api.DamValley{Sirens: []api.DamSiren{{At: -1}}, Houses: slices.Repeat([]int{-1}, n)}, 0, api.ErrLarge})
	}
	for _, n := range outside(0, api.MaxDamValue) {
		for at := range 20 {
			v := api.DamValley{Sirens: make([]api.DamSiren, 20), Houses: []int{0, -1}}
			v.Sirens[19].At = -1
			v.Sirens[at] = api.DamSiren{At: n}
			l = append(l, badValley{v, at, api.ErrRange})
			v.Sirens = slices.Clone(v.Sirens)
			v.Sirens[at] = api.DamSiren{At: 5, Reach: n}
			l = append(l, badValley{v, at, api.ErrRange})
		}
		for at := range 40 {
			v := api.DamValley{Sirens: []api.DamSiren{{}, {Reach: 3}}, Houses: make([]int, 40)}
			v.Houses[0], v.Houses[39] = 500, -1
			v.Houses[at] = n
			l = append(l, badValley{v, at, api.ErrRange})
		}
	}
	return l
}

// P9.5.
func TestCheckValley(t *testing.T) {
	const most = api.MaxDamValue
	for _, v := range []api.DamValley{
		exampleValley(), {}, {Houses: []int{7}}, {Sirens: []api.DamSiren{{}}},
		{Sirens: slices.Repeat([]api.DamSiren{{At: most, Reach: most}, {}}, 10), Houses: slices.Repeat([]int{0, most}, 20)},
	} {
		if i, e := dam.CheckValley(v); i != 0 || e != api.OK {
			t.Error(v, i, e)
		}
	}
	for _, c := range badValleys() {
		if i, e := dam.CheckValley(c.valley); i != c.index || e != c.want {
			t.Error(c, i, e)
		}
		if cover, packing := call(dam.CoverOf(c.valley)), call(dam.PackingOf(c.valley)); !failed(cover, c.want) || !failed(packing, c.want) {
			t.Error(c, cover, packing)
		}
	}
}

// P9.5, example 9, and the edge cases: no houses; a siren with the reach 0.
func TestCoverOf(t *testing.T) {
	const most = api.MaxDamValue
	for _, c := range []struct {
		sirens []api.DamSiren
		houses []int
		want   []int
	}{
		{exampleValley().Sirens, exampleValley().Houses, []int{0, 2}},
		{exampleValley().Sirens, nil, nil},
		{nil, nil, nil},
		{exampleValley().Sirens, []int{20}, []int{0}},
		{exampleValley().Sirens, []int{40}, []int{1}},
		{exampleValley().Sirens, []int{41}, []int{2}},
		{exampleValley().Sirens, []int{0, 70, 30}, []int{0, 1, 2}},
		{[]api.DamSiren{{At: 7}}, []int{7, 7, 7}, []int{0}},
		{[]api.DamSiren{{At: 6}, {At: 7}, {At: 7}}, []int{7}, []int{1}},
		{[]api.DamSiren{{At: 5, Reach: 5}, {At: 0, Reach: 2}, {At: 10, Reach: 2}, {At: 5, Reach: 6}}, []int{0, 10}, []int{0}},
		{[]api.DamSiren{{At: 5, Reach: 1}, {At: 0, Reach: 5}, {At: 10, Reach: 5}}, []int{0, 5, 10}, []int{1, 2}},
		{[]api.DamSiren{{At: 5, Reach: 1}, {At: 0, Reach: 4}, {At: 10, Reach: 4}, {At: 0, Reach: 5}}, []int{10, 0, 5}, []int{2, 3}},
		{[]api.DamSiren{{At: 9, Reach: 3}, {At: 3, Reach: 3}, {At: 2, Reach: 2}, {At: 8, Reach: 2}}, []int{10, 6, 4, 0}, []int{0, 1}},
		{[]api.DamSiren{{At: most, Reach: most}, {Reach: most}}, []int{0, most}, []int{0}},
		{[]api.DamSiren{{At: most}, {}}, []int{0, most}, []int{0, 1}},
	} {
		v := api.DamValley{Sirens: c.sirens, Houses: c.houses}
		if l, e := dam.CoverOf(v); !slices.Equal(l, c.want) || e != api.OK {
			t.Error(c, l, e)
		}
		if l, e := dam.PackingOf(v); len(l) != len(c.want) || !isPacking(v, l) || e != api.OK {
			t.Error(c, l, e)
		}
	}
}

// P9.5: houses that hear no siren.
func TestUnheardHouses(t *testing.T) {
	for _, v := range []api.DamValley{
		{Houses: []int{0}},
		{Sirens: []api.DamSiren{{At: 7}}, Houses: []int{6}},
		{Sirens: []api.DamSiren{{At: 7}}, Houses: []int{7, 8}},
		{Sirens: exampleValley().Sirens, Houses: []int{5, 71, 20}},
		{Sirens: exampleValley().Sirens, Houses: []int{5, 20, 1000000}},
		{Sirens: []api.DamSiren{{At: 10, Reach: 3}, {At: 20, Reach: 3}}, Houses: []int{14}},
		{Sirens: []api.DamSiren{{At: 10, Reach: 3}, {At: 20, Reach: 3}}, Houses: []int{16, 7, 23, 13, 17}},
		{Sirens: []api.DamSiren{{At: 10, Reach: 3}}, Houses: []int{0, 10}},
	} {
		if cover, packing := call(dam.CoverOf(v)), call(dam.PackingOf(v)); !failed(cover, api.ErrNone) || !failed(packing, api.ErrNone) {
			t.Error(v, cover, packing)
		}
	}
}

// compareCovers compares both sets with what trying all sets finds.
func compareCovers(t *testing.T, v api.DamValley) api.Errno {
	t.Helper()
	cover, e := dam.CoverOf(v)
	packing, packingE := dam.PackingOf(v)
	want, ok := modelCover(v)
	if !slices.Equal(cover, want) || (e == api.OK) != ok || packingE != e || !ok && e != api.ErrNone {
		t.Fatal(v, cover, e, want, ok)
	}
	if e == api.OK && !isCover(v, cover) {
		t.Fatal(v, cover)
	}
	isIndex := !slices.ContainsFunc(packing, func(house int) bool { return house < 0 || house >= len(v.Houses) })
	for i := range packing {
		isIndex = isIndex && (i == 0 || packing[i-1] < packing[i])
	}
	if len(packing) != len(cover) || !isIndex || !isPacking(v, packing) {
		t.Fatal(v, cover, packing)
	}
	return e
}

// P9.5 and P9.12: the cover is the lexicographically first one of the minimum size, and the packing has as many houses.
func TestCoversAgainstModel(t *testing.T) {
	r := random(16)
	count := map[api.Errno]int{}
	for range 4000 {
		count[compareCovers(t, randomValley(r, 9, 12))]++
	}
	for range 60 {
		count[compareCovers(t, randomValley(r, 14, 40))]++
	}
	if count[api.OK] < 1000 || count[api.ErrNone] < 100 {
		t.Error(count)
	}
}

// P9.12: as many sirens and houses as there may be.
func TestLargeValleys(t *testing.T) {
	var v api.DamValley
	for i := range 20 {
		v.Sirens = append(v.Sirens, api.DamSiren{At: 1000 - 50*i, Reach: 25})
		v.Houses = append(v.Houses, 1000-50*i, 1025-50*i)
	}
	cover, coverE := dam.CoverOf(v)
	packing, packingE := dam.PackingOf(v)
	if len(cover) != 20 || len(packing) != 20 || !isCover(v, cover) || !isPacking(v, packing) || coverE+packingE != api.OK {
		t.Error(cover, packing)
	}
	r := random(17)
	for range 2000 {
		v := randomValley(r, 20, 40)
		cover, e := dam.CoverOf(v)
		packing, packingE := dam.PackingOf(v)
		if len(cover) != len(packing) || e != packingE || e == api.OK && !isCover(v, cover) || !isPacking(v, packing) {
			t.Fatal(v, cover, packing, e)
		}
	}
}
