package dam_test

import (
	"math"
	"slices"
	"testing"

	"guidevane/api"
	"guidevane/dam"
)

// exampleGauges are the instruments of the examples.
func exampleGauges() []api.DamGauge {
	return []api.DamGauge{
		{Name: "p", Value: api.Range{Lo: 100, Hi: 104}, Shift: api.Range{Hi: 1}},
		{Name: "q", Value: api.Range{Lo: 108, Hi: 109}, Shift: api.Range{Lo: 2, Hi: 3}},
	}
}

// gauges returns instruments without shifts, each with the ends of its range.
func gauges(ends ...int) []api.DamGauge {
	var l []api.DamGauge
	for i, name := range names(len(ends) / 2) {
		l = append(l, api.DamGauge{Name: name, Value: api.Range{Lo: ends[2*i], Hi: ends[2*i+1]}})
	}
	return l
}

// P9.4, example 7, and the edge case that ranges which touch agree on one number.
func TestAgreedOf(t *testing.T) {
	const most = api.MaxDamValue
	wide := api.Range{Lo: -most, Hi: most}
	for _, c := range []struct {
		l    []api.DamGauge
		want api.Range
		e    api.Errno
	}{
		{exampleGauges(), api.Range{}, api.ErrClash},
		{exampleGauges()[:1], api.Range{Lo: 99, Hi: 104}, api.OK},
		{exampleGauges()[1:], api.Range{Lo: 105, Hi: 107}, api.OK},
		{gauges(5, 5), api.Range{Lo: 5, Hi: 5}, api.OK},
		{gauges(0, 5, 5, 9), api.Range{Lo: 5, Hi: 5}, api.OK},
		{gauges(5, 9, 0, 5), api.Range{Lo: 5, Hi: 5}, api.OK},
		{gauges(0, 5, 6, 9), api.Range{}, api.ErrClash},
		{gauges(0, 9, 2, 12, -5, 7), api.Range{Lo: 2, Hi: 7}, api.OK},
		{gauges(0, 9, 2, 12, -5, 1), api.Range{}, api.ErrClash},
		{gauges(-5, 1, 0, 9, 2, 12), api.Range{}, api.ErrClash},
		{gauges(-9, -3, -4, -1), api.Range{Lo: -4, Hi: -3}, api.OK},
		{[]api.DamGauge{{Name: "a", Value: wide, Shift: wide}}, api.Range{Lo: -2 * most, Hi: 2 * most}, api.OK},
		{[]api.DamGauge{{Name: "a", Value: api.Range{Lo: 7, Hi: 8}, Shift: api.Range{Lo: -3, Hi: -2}}}, api.Range{Lo: 9, Hi: 11}, api.OK},
		{gauges(slices.Repeat([]int{-most, most}, 12)...), wide, api.OK},
	} {
		if r, e := dam.AgreedOf(c.l); r != c.want || e != c.e {
			t.Error(c, r, e)
		}
	}
}

// P9.4 and example 7.
func TestContradicting(t *testing.T) {
	for _, c := range []struct {
		l    []api.DamGauge
		want [2]string
		e    api.Errno
	}{
		{exampleGauges(), [2]string{"p", "q"}, api.OK},
		{[]api.DamGauge{exampleGauges()[1], exampleGauges()[0]}, [2]string{"q", "p"}, api.OK},
		{exampleGauges()[:1], [2]string{}, api.ErrNone},
		{gauges(0, 5, 5, 9), [2]string{}, api.ErrNone},
		{gauges(0, 5, 6, 9), [2]string{"n0", "n1"}, api.OK},
		{gauges(0, 9, 2, 12, -5, 7), [2]string{}, api.ErrNone},
		{gauges(0, 9, 2, 12, -5, 1), [2]string{"n1", "n2"}, api.OK},
		{gauges(0, 9, 2, 12, -5, -1), [2]string{"n0", "n2"}, api.OK},
		{gauges(0, 9, 20, 22, 10, 11, 30, 31), [2]string{"n0", "n1"}, api.OK},
		{gauges(0, 40, 20, 22, 10, 11, 30, 31), [2]string{"n1", "n2"}, api.OK},
		{gauges(0, 40, 20, 35, 10, 20, 30, 31), [2]string{"n2", "n3"}, api.OK},
		{gauges(0, 40, 20, 25, 10, 20, 30, 31), [2]string{"n1", "n3"}, api.OK},
	} {
		if names, e := dam.Contradicting(c.l); names != c.want || e != c.e {
			t.Error(c, names, e)
		}
	}
}

// P9.4: small ranges contain just the numbers with which all instruments may show what they do.
func TestAgreedOfAgainstModel(t *testing.T) {
	r := random(13)
	count := map[api.Errno]int{}
	for range 3000 {
		var l []api.DamGauge
		for _, name := range names(between(r, 1, 4)) {
			value, shift := between(r, -20, 20), between(r, -9, 9)
			l = append(l, api.DamGauge{Name: name, Value: api.Range{Lo: value, Hi: value + r.IntN(15)}, Shift: api.Range{Lo: shift, Hi: shift + r.IntN(9)}})
		}
		agreed, e := dam.AgreedOf(l)
		count[e]++
		if e != api.OK {
			agreed = api.Range{Lo: 1}
		}
		for n := -60; n <= 60; n++ {
			all := !slices.ContainsFunc(l, func(g api.DamGauge) bool { return !mayShow(g, n) })
			if all != (agreed.Lo <= n && n <= agreed.Hi) {
				t.Fatal(l, agreed, e, n)
			}
		}
	}
	if count[api.OK] < 300 || count[api.ErrClash] < 100 {
		t.Error(count)
	}
}

// P9.4 and P9.11: instruments that contradict each other have two that do, and the first two are found; the agreed range of more instruments lies in that of fewer ones.
func TestTwoInstruments(t *testing.T) {
	r := random(14)
	count := map[api.Errno]int{}
	for range 5000 {
		l := randomGauges(r)
		agreed, agreedE := dam.AgreedOf(l)
		names, e := dam.Contradicting(l)
		if (agreedE == api.ErrClash) != (e == api.OK) || (agreedE == api.OK) != (e == api.ErrNone) {
			t.Fatal(l, agreed, agreedE, names, e)
		}
		count[agreedE]++
		want := [2]string{}
		for i := range l {
			for k := i + 1; k < len(l); k++ {
				if _, e := dam.AgreedOf([]api.DamGauge{l[i], l[k]}); e == api.ErrClash && want[0] == "" {
					want = [2]string{l[i].Name, l[k].Name}
				}
			}
		}
		if names != want {
			t.Fatal(l, names, want)
		}
		fewer := slices.Delete(slices.Clone(l), 0, r.IntN(len(l)))
		if of, e := dam.AgreedOf(fewer); agreedE == api.OK && (e != api.OK || of.Lo > agreed.Lo || of.Hi < agreed.Hi) {
			t.Fatal(l, agreed, fewer, of, e)
		}
	}
	if count[api.OK] < 300 || count[api.ErrClash] < 300 {
		t.Error(count)
	}
}

type badGauge struct {
	l    []api.DamGauge
	want api.Errno
}

// badGauges returns instruments for each error, and for each order of two errors.
func badGauges() []badGauge {
	l := []badGauge{{nil, api.ErrShape}, {[]api.DamGauge{}, api.ErrShape}, {make([]api.DamGauge, 13), api.ErrLarge}, {gauges(make([]int, 26)...), api.ErrLarge}, {make([]api.DamGauge, 3000), api.ErrLarge}}
	for at := range 12 {
		add := func(want api.Errno, change func(l []api.DamGauge, g *api.DamGauge)) {
			all := gauges(make([]int, 24)...)
			change(all, &all[at])
			l = append(l, badGauge{all, want})
			if at < 11 {
				all = slices.Clone(all)
				all[11] = api.DamGauge{Name: "", Value: api.Range{Lo: math.MaxInt, Hi: 1}}
				l = append(l, badGauge{all, want})
			}
		}
		for _, name := range badNames() {
			add(api.ErrName, func(l []api.DamGauge, g *api.DamGauge) { g.Name = name })
			add(api.ErrName, func(l []api.DamGauge, g *api.DamGauge) {
				*g = api.DamGauge{Name: name, Value: api.Range{Lo: 1000001}, Shift: api.Range{Lo: 1}}
			})
		}
		if at > 0 {
			add(api.ErrExists, func(l []api.DamGauge, g *api.DamGauge) { g.Name = l[0].Name })
			add(api.ErrExists, func(l []api.DamGauge, g *api.DamGauge) { g.Name, g.Shift.Lo = l[at-1].Name, 1000001 })
		}
		for _, n := range outside(-api.MaxDamValue, api.MaxDamValue) {
			add(api.ErrRange, func(l []api.DamGauge, g *api.DamGauge) { g.Value.Lo = n })
			add(api.ErrRange, func(l []api.DamGauge, g *api.DamGauge) { g.Value.Hi = n })
			add(api.ErrRange, func(l []api.DamGauge, g *api.DamGauge) { g.Shift.Lo = n })
			add(api.ErrRange, func(l []api.DamGauge, g *api.DamGauge) { g.Shift.Hi, g.Value.Lo = n, 1 })
		}
		add(api.ErrOrder, func(l []api.DamGauge, g *api.DamGauge) { g.Value.Lo = 1 })
		add(api.ErrOrder, func(l []api.DamGauge, g *api.DamGauge) { g.Shift.Hi = -1 })
		add(api.ErrOrder, func(l []api.DamGauge, g *api.DamGauge) {
			g.Value, g.Shift = api.Range{Lo: 5, Hi: 4}, api.Range{Lo: 0, Hi: 100}
		})
	}
	return l
}

// P9.4.
func TestBadGauges(t *testing.T) {
	for _, c := range badGauges() {
		if got := call(dam.AgreedOf(c.l)); !failed(got, c.want) {
			t.Error(c, got)
		}
		if got := call(dam.Contradicting(c.l)); !failed(got, c.want) {
			t.Error(c, got)
		}
	}
	for _, name := range goodNames() {
		if r, e := dam.AgreedOf([]api.DamGauge{{Name: name}}); r != (api.Range{}) || e != api.OK {
			t.Error(name, r, e)
		}
	}
}
