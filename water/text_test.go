package water_test

import (
	"math"
	"reflect"
	"strings"
	"testing"

	"guidevane/api"
	"guidevane/water"
)

// P2.8.
func TestFormatNet(t *testing.T) {
	for want, n := range map[string]api.WaterNet{
		exampleX:                               changed(func(n *api.WaterNet) {}),
		closedX:                                changed(func(n *api.WaterNet) { n.Conduits[1].Open = false }),
		";":                                    {},
		"=0;":                                  {Nodes: []api.WaterNode{{Lake: true}}},
		"+0,+0;":                               {Nodes: []api.WaterNode{{}, {}}},
		"; 0 0 0 n, 0 0 0 n, 0 0 0 c, 0 0 0 o": {Conduits: []api.WaterConduit{{}, {Open: true}, {Valve: true}, {Valve: true, Open: true}}},
	} {
		if s := water.FormatNet(n); s != want {
			t.Error(s, want)
		}
	}
	odd := api.WaterNet{
		Nodes:    []api.WaterNode{{Name: "a,b;", Lake: true, Head: -5, Draw: 7}, {Name: "+-", Head: 3, Draw: math.MinInt}},
		Conduits: []api.WaterConduit{{Name: ",", From: -1, To: math.MaxInt, Resist: math.MinInt, Open: true}},
	}
	if s := water.FormatNet(odd); s != "a,b;=-5,+-+-9223372036854775808;, -1 9223372036854775807 -9223372036854775808 n" {
		t.Error(s)
	}
	if s := water.FormatNet(sized(300, 300)); strings.Count(s, ",") != 598 {
		t.Error(s)
	}
}

// P2.8.
func TestParseNet(t *testing.T) {
	for s, want := range map[string]api.WaterNet{
		exampleX: changed(func(n *api.WaterNet) {}),
		closedX:  changed(func(n *api.WaterNet) { n.Conduits[1].Open = false }),
		"s=1000000,j+-10000;p-0 1 0 1000 c": {
			Nodes:    []api.WaterNode{{Name: "s", Lake: true, Head: api.MaxWaterHead}, {Name: "j", Draw: -api.MaxWaterDraw}},
			Conduits: []api.WaterConduit{{Name: "p-0", From: 1, Resist: api.MaxWaterResist, Valve: true}},
		},
		water.FormatNet(sized(10, 14)): sized(10, 14),
	} {
		if n, e := water.ParseNet(s); e != api.OK || !reflect.DeepEqual(n, want) {
			t.Error(s, n, e)
		}
	}
}

// P2.8.
func TestParseNetErrors(t *testing.T) {
	nodes := func(l string) string { return l + ";a 0 1 5 n" }
	conduits := func(l string) string { return "s=1,t=2;" + l }
	for _, c := range []struct {
		want  api.Errno
		bring func(string) string
		l     []string
	}{
		{api.ErrSyntax, strings.Clone, []string{"", ";", ";;", "s=1", "s=1;", ";a 0 1 5 n", "s=1,t=2;a 0 1 5 n;", ";s=1,t=2;a 0 1 5 n", "s=1,t=2;a;b 0 1 5 n", "s=1;t=2;a 0 1 5 n", "a 0 1 5 n;s=1,t=2", "s=1,t=2;a 0 1 5 n;b 0 1 5 n"}},
		{api.ErrSyntax, nodes, []string{"s", "s=1,", ",s=1", "s=1,,t=2", "s=1,t", "s=1,t 2", "s=,t=2", "s=1,t+", "s=1 ,t=2", "s= 1,t=2", "s=1,t=2 "}},
		{api.ErrSyntax, nodes, []string{"s=-1,t=2", "s=-0,t=2", "s=+1,t=2", "s=01,t=2", "s=00,t=2", "s=x,t=2", "s=1x,t=2", "s=0x1,t=2", "s=1_0,t=2", "s=1.0,t=2", "s=1e1,t=2", "s=10000000,t=2", "s=99999999999999999999,t=2", "s=\u0661,t=2", "s=/,t=2", "s=:,t=2"}},
		{api.ErrSyntax, nodes, []string{"s=1,t+-0", "s=1,t++1", "s=1,t+01", "s=1,t+-01", "s=1,t+-", "s=1,t+--1", "s=1,t+- 1", "s=1,t+1-", "s=1,t+10000000", "s=1,t+-10000000", "s=1,t+-99999999999999999999", "s=1,t+1_0", "s=1,t+-x"}},
		{api.ErrSyntax, nodes, []string{"s=1=1,t=2", "s=1+1,t=2", "s+1=1,t=2", "s==1,t=2", "s=1,t-1", "s=1,t:1"}},
		{api.ErrSyntax, conduits, []string{"a", "a 0 1 5", "a 0 1 5 n ", " a 0 1 5 n", "a  0 1 5 n", "a 0 1 5  n", "a 0 1 5 n n", "0 1 5 n", "a,0,1,5,n", "a\t0 1 5 n", "a 0 1 5 n,", ",a 0 1 5 n", "a 0 1 5 n,,b 0 1 5 n", "a 0 1 5 n, b 0 1 5 n"}},
		{api.ErrSyntax, conduits, []string{"a 0 1 5 x", "a 0 1 5 O", "a 0 1 5 N", "a 0 1 5 C", "a 0 1 5 no", "a 0 1 5 oo", "a 0 1 5 ", "a -1 1 5 n", "a 0 -1 5 n", "a 0 1 -5 n", "a -0 1 5 n", "a 0 1 -0 n", "a +0 1 5 n", "a 0 +1 5 n", "a 0 1 +5 n"}},
		{api.ErrSyntax, conduits, []string{"a 00 1 5 n", "a 0 01 5 n", "a 0 1 05 n", "a x 1 5 n", "a 0 x 5 n", "a 0 1 x n", "a 10000000 1 5 n", "a 0 10000000 5 n", "a 0 1 10000000 n", "a 0 1 99999999999999999999 n", "a 0 2 5 n,b 0 1 5 x", "a  1 5 n"}},
		{api.ErrName, nodes, []string{"=1,s=1", "s=1,+1", "s=1,1=1", "s s=1,t=2", "s=1,t-_+1", " s=1,t=2", "abcdefghijklm=1,t=2"}},
		{api.ErrName, conduits, []string{" 0 1 5 n", "1 0 1 5 n", "a= 0 1 5 n", "a\t 0 1 5 n", "- 0 1 5 n"}},
		{api.ErrExists, strings.Clone, []string{nodes("s=1,s=1"), nodes("s=1,s+1"), conduits("a 0 1 5 n,a 1 0 5 o")}},
		{api.ErrRange, strings.Clone, []string{nodes("s=1000001,t=2"), nodes("s=9999999,t=2"), nodes("s=1,t+10001"), nodes("s=1,t+-10001"), nodes("s=1,t+-9999999"), conduits("a 0 1 1001 n"), conduits("a 0 1 9999999 n")}},
		{api.ErrMissing, conduits, []string{"a 0 2 5 n", "a 2 0 5 n", "a 9999999 0 5 n", "a 2 2 5 n"}},
		{api.ErrClash, conduits, []string{"a 0 0 5 n", "a 1 1 5 c"}},
		{api.ErrLarge, strings.Clone, []string{water.FormatNet(sized(11, 1)), water.FormatNet(sized(2, 15)), water.FormatNet(sized(1000, 1000)), strings.Repeat("x", api.MaxString+1), exampleX + strings.Repeat(" ", api.MaxString)}},
		{api.ErrSyntax, strings.Clone, []string{strings.Repeat("x", api.MaxString), strings.Repeat(";", api.MaxString), strings.Repeat(",", api.MaxString), water.FormatNet(sized(11, 1)) + "x", water.FormatNet(sized(2, 15)) + ","}},
		{api.ErrName, strings.Clone, []string{strings.Repeat("x", api.MaxString-len(exampleX)) + exampleX}},
	} {
		for _, l := range c.l {
			s := c.bring(l)
			if n, e := water.ParseNet(s); e != c.want || len(n.Nodes)+len(n.Conduits) > 0 {
				t.Errorf("%.60q %v %v", s, n, e)
			}
		}
	}
}

// P2.14.
func TestStringsAreReversed(t *testing.T) {
	r := random(12)
	for range 3000 {
		n := randomNet(r, api.MaxWaterNodes, 2)
		if r.IntN(2) == 0 {
			n = randomCircuit(r, api.MaxWaterHead, api.MaxWaterDraw, api.MaxWaterResist)
		}
		s := water.FormatNet(n)
		m, e := water.ParseNet(s)
		if e != api.OK || !reflect.DeepEqual(n, m) || water.FormatNet(m) != s {
			t.Fatal(s, m, e)
		}
	}
}
