package dam_test

import (
	"slices"
	"testing"

	"guidevane/api"
	"guidevane/dam"
)

// exampleBasin is the emptying rules of the examples.
func exampleBasin() api.DamBasin {
	return api.DamBasin{Volumes: []int{1000, 500}, Outflows: []int{300, 100}}
}

type badBasin struct {
	basin api.DamBasin
	index int
	want  api.Errno
}

// badBasins returns emptying rules for each error of CheckBasin, and for orders of two errors.
func badBasins() []badBasin {
	var l []badBasin
	bad := func(n int) []int { return slices.Repeat([]int{-1}, n) }
	for _, c := range [][2]int{{0, 0}, {0, 1}, {1, 0}, {1, 2}, {2, 1}, {20, 19}, {19, 20}, {21, 20}, {20, 21}, {0, 21}, {21, 0}} {
		l = append(l, badBasin{api.DamBasin{Volumes: bad(c[0]), Outflows: bad(c[1])}, 0, api.ErrShape})
	}
	l = append(l, badBasin{api.DamBasin{}, 0, api.ErrShape})
	for _, n := range []int{21, 22, 1000} {
		l = append(l, badBasin{api.DamBasin{Volumes: bad(n), Outflows: bad(n)}, 0, api.ErrLarge})
		l = append(l, badBasin{api.DamBasin{Volumes: make([]int, n), Outflows: slices.Repeat([]int{1}, n)}, 0, api.ErrLarge})
	}
	for at := range 20 {
		add := func(volume, outflow int) {
			b := api.DamBasin{Volumes: make([]int, 20), Outflows: slices.Repeat([]int{1}, 20)}
			b.Volumes[19] = -7
			b.Volumes[at], b.Outflows[at] = volume, outflow
			l = append(l, badBasin{b, at, api.ErrRange})
		}
		for _, n := range outside(0, api.MaxDamVolume) {
			add(n, 5)
			add(n, n)
		}
		for _, n := range outside(1, api.MaxDamVolume) {
			add(5, n)
		}
	}
	return l
}

// P9.5.
func TestCheckBasin(t *testing.T) {
	const most = api.MaxDamVolume
	for _, b := range []api.DamBasin{
		exampleBasin(),
		{Volumes: []int{0}, Outflows: []int{1}},
		{Volumes: []int{most}, Outflows: []int{most}},
		{Volumes: slices.Repeat([]int{most, 0}, 10), Outflows: slices.Repeat([]int{1, most}, 10)},
	} {
		if i, e := dam.CheckBasin(b); i != 0 || e != api.OK {
			t.Error(b, i, e)
		}
	}
	for _, c := range badBasins() {
		if i, e := dam.CheckBasin(c.basin); i != c.index || e != c.want {
			t.Error(c, i, e)
		}
		for _, layers := range []int{0, 1, -1} {
			if got := call(dam.EmptyingOf(c.basin, layers)); !failed(got, c.want) {
				t.Error(c, layers, got)
			}
		}
	}
}

// P9.5, example 8, and the edge case that a layer of the volume 0 takes no time.
func TestEmptyingOf(t *testing.T) {
	const most = api.MaxDamVolume
	for _, c := range []struct {
		b    api.DamBasin
		want []int
	}{
		{exampleBasin(), []int{0, 4, 9}},
		{api.DamBasin{Volumes: []int{0, 5, 0}, Outflows: []int{7, 7, 1}}, []int{0, 0, 1, 1}},
		{api.DamBasin{Volumes: []int{6, 7, 8, 14, 15}, Outflows: []int{7, 7, 7, 7, 7}}, []int{0, 1, 2, 4, 6, 9}},
		{api.DamBasin{Volumes: []int{most, most, 1, most - 1}, Outflows: []int{1, most, most, most}}, []int{0, most, most + 1, most + 2, most + 3}},
	} {
		for layers, want := range c.want {
			if n, e := dam.EmptyingOf(c.b, layers); n != want || e != api.OK {
				t.Error(c, layers, n, e)
			}
		}
	}
	all := api.DamBasin{Volumes: slices.Repeat([]int{most}, 20), Outflows: slices.Repeat([]int{1}, 20)}
	if n, e := dam.EmptyingOf(all, 20); n != 20*most || e != api.OK {
		t.Error(n, e)
	}
	for _, layers := range outside(0, 2) {
		if got := call(dam.EmptyingOf(exampleBasin(), layers)); !failed(got, api.ErrRange) {
			t.Error(layers, got)
		}
	}
}

// P9.13: the time to empty more layers is not less; it is the sum of the times of its layers.
func TestLayerByLayer(t *testing.T) {
	r := random(15)
	for range 1000 {
		var b api.DamBasin
		for range between(r, 1, 20) {
			b.Volumes = append(b.Volumes, chosen(r, 0, between(r, 0, 50), between(r, 0, api.MaxDamVolume)))
			b.Outflows = append(b.Outflows, chosen(r, 1, between(r, 1, 20), between(r, 1, api.MaxDamVolume)))
		}
		sum := 0
		for i, volume := range b.Volumes {
			alone, aloneE := dam.EmptyingOf(api.DamBasin{Volumes: b.Volumes[i : i+1], Outflows: b.Outflows[i : i+1]}, 1)
			if (alone-1)*b.Outflows[i] >= max(volume, 1-b.Outflows[i]) || alone*b.Outflows[i] < volume {
				t.Fatal(volume, b.Outflows[i], alone)
			}
			before, beforeE := dam.EmptyingOf(b, i)
			sum += alone
			if n, e := dam.EmptyingOf(b, i+1); n != sum || n < before || aloneE+beforeE+e != api.OK {
				t.Fatal(b, i, n, before, sum)
			}
		}
	}
}
