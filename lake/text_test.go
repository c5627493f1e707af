package lake_test

import (
	"math"
	"reflect"
	"slices"
	"strings"
	"testing"

	"guidevane/api"
	"guidevane/lake"
)

// P1.7.
func TestFormatTable(t *testing.T) {
	cases := map[string]api.LakeTable{
		"0 0;100 1000;200 3000": example(),
		"":                      knots(),
		"5 7":                   knots(5, 7),
		"-5 -7;0 0;0 0":         knots(-5, -7, 0, 0, 0, 0),
		"9223372036854775807 -9223372036854775808":    knots(math.MaxInt, math.MinInt),
		"1 1;1 1;1 1;1 1;1 1;1 1;1 1;1 1;1 1;1 1;1 1": knots(1, 1, 1, 1, 1, 1, 1, 1, 1, 1, 1, 1, 1, 1, 1, 1, 1, 1, 1, 1, 1, 1),
	}
	for want, x := range cases {
		if s := lake.FormatTable(x); s != want {
			t.Error(s, want)
		}
	}
}

// P1.7.
func TestParseTable(t *testing.T) {
	cases := map[string]api.LakeTable{
		"0 0;100 1000;200 3000":  example(),
		"5 7;6 8":                knots(5, 7, 6, 8),
		"0 0;1000000 1000000000": knots(0, 0, api.MaxLakeLevel, api.MaxLakeVolume),
		"1 7;499979 333333331;1000000 1000000000": wideTable(),
	}
	for s, want := range cases {
		if x, e := lake.ParseTable(s); e != api.OK || !slices.Equal(x.Knots, want.Knots) {
			t.Error(s, x, e)
		}
	}
}

// P1.7.
func TestParseTableErrors(t *testing.T) {
	cases := []struct {
		s    string
		want api.Errno
	}{
		{"", api.ErrSyntax}, {";", api.ErrSyntax}, {" ", api.ErrSyntax}, {"5", api.ErrSyntax}, {"0 0;", api.ErrSyntax}, {";0 0;1 1", api.ErrSyntax},
		{"0 0;1 1;", api.ErrSyntax}, {"0 0;;1 1", api.ErrSyntax}, {"0 0; 1 1", api.ErrSyntax}, {"0 0 ;1 1", api.ErrSyntax}, {"0  0;1 1", api.ErrSyntax},
		{"0 0;1 1 1", api.ErrSyntax}, {"0 0;1", api.ErrSyntax}, {"0 0,1 1", api.ErrSyntax}, {"0 0;1 1\n", api.ErrSyntax}, {"0\t0;1 1", api.ErrSyntax},
		{"-1 0;1 1", api.ErrSyntax}, {"0 -1;1 1", api.ErrSyntax}, {"-0 0;1 1", api.ErrSyntax}, {"+1 1;2 2", api.ErrSyntax}, {"0 0;+1 1", api.ErrSyntax},
		{"00 0;1 1", api.ErrSyntax}, {"0 0;01 1", api.ErrSyntax}, {"0 0;1 01", api.ErrSyntax}, {"0 0;1 1a", api.ErrSyntax}, {"0 0;1 1.0", api.ErrSyntax},
		{"0 0;1e1 1", api.ErrSyntax}, {"0 0;0x1 1", api.ErrSyntax}, {"0 0;1_0 1", api.ErrSyntax}, {"0 0;\u0661 1", api.ErrSyntax}, {"0 0;/ :", api.ErrSyntax},
		{"0 0;1 10000000000", api.ErrSyntax}, {"0 0;10000000000 1", api.ErrSyntax}, {"0 0;1 99999999999999999999", api.ErrSyntax},
		{"0 0;1 9999999999", api.ErrRange}, {"0 0;9999999999 1", api.ErrRange}, {"0 0;1000001 1", api.ErrRange}, {"0 0;1 1000000001", api.ErrRange},
		{"0 0", api.ErrShape}, {"9999999999 0", api.ErrShape}, {"0 0;0 1", api.ErrOrder}, {"0 0;1 0", api.ErrOrder}, {"0 0;1 5;2 6", api.ErrBreak},
		{"0 0;1 1;2 2;3 3;4 4;5 5;6 6;7 7;8 8;9 9;10 10", api.ErrLarge},
		{"5 5;5 5;x", api.ErrSyntax},
		{strings.Repeat("1 1;", 50) + "x", api.ErrSyntax},
		{strings.Repeat("1", api.MaxString), api.ErrSyntax},
		{strings.Repeat("1", api.MaxString+1), api.ErrLarge},
		{strings.Repeat("1 1;", api.MaxString/4-1) + "1 11", api.ErrLarge},
	}
	for _, c := range cases {
		if x, e := lake.ParseTable(c.s); e != c.want || len(x.Knots) != 0 {
			t.Errorf("%.40q %v %v", c.s, x, e)
		}
	}
}

// P1.7.
func TestFormatFlows(t *testing.T) {
	cases := []struct {
		want  string
		flows []api.LakeFlows
	}{
		{"7 0 100;0 0 -5", []api.LakeFlows{{InUpper: 7, Exchange: 100}, {Exchange: -5}}},
		{"", nil},
		{"0 0 0", make([]api.LakeFlows, 1)},
		{"1 2 3", []api.LakeFlows{{InUpper: 1, InLower: 2, Exchange: 3}}},
		{"-1 -2 -9223372036854775808", []api.LakeFlows{{InUpper: -1, InLower: -2, Exchange: math.MinInt}}},
		{strings.Repeat("0 0 0;", api.MaxLakeTicks) + "0 0 0", make([]api.LakeFlows, api.MaxLakeTicks+1)},
	}
	for _, c := range cases {
		if s := lake.FormatFlows(c.flows); s != c.want {
			t.Error(s, c.want)
		}
	}
}

// P1.7.
func TestParseFlows(t *testing.T) {
	cases := []struct {
		s    string
		want []api.LakeFlows
	}{
		{"7 0 100;0 0 -5", []api.LakeFlows{{InUpper: 7, Exchange: 100}, {Exchange: -5}}},
		{"", nil},
		{"0 0 0", make([]api.LakeFlows, 1)},
		{"1 2 3", []api.LakeFlows{{InUpper: 1, InLower: 2, Exchange: 3}}},
		{"10000000 10000000 -10000000", []api.LakeFlows{{InUpper: api.MaxLakeFlow, InLower: api.MaxLakeFlow, Exchange: -api.MaxLakeFlow}}},
		{strings.Repeat("0 0 0;", api.MaxLakeTicks-1) + "0 0 0", make([]api.LakeFlows, api.MaxLakeTicks)},
	}
	for _, c := range cases {
		if l, e := lake.ParseFlows(c.s); e != api.OK || !slices.Equal(l, c.want) {
			t.Error(c.s, l, e)
		}
	}
}

// P1.7.
func TestParseFlowsErrors(t *testing.T) {
	cases := []struct {
		s    string
		want api.Errno
	}{
		{" ", api.ErrSyntax}, {";", api.ErrSyntax}, {"0 0 0;", api.ErrSyntax}, {";0 0 0", api.ErrSyntax}, {"0 0 0;;0 0 0", api.ErrSyntax},
		{"0 0", api.ErrSyntax}, {"0 0 0 0", api.ErrSyntax}, {"0  0 0", api.ErrSyntax}, {" 0 0 0", api.ErrSyntax}, {"0 0 0 ", api.ErrSyntax}, {"0 0 0; 0 0 0", api.ErrSyntax},
		{"7 -1 100", api.ErrSyntax}, {"-7 1 100", api.ErrSyntax}, {"-0 0 0", api.ErrSyntax}, {"0 0 -0", api.ErrSyntax}, {"0 0 -", api.ErrSyntax}, {"0 0 --1", api.ErrSyntax},
		{"0 0 +1", api.ErrSyntax}, {"0 0 -+1", api.ErrSyntax}, {"0 0 1-", api.ErrSyntax}, {"0 0 -01", api.ErrSyntax}, {"0 0 01", api.ErrSyntax}, {"00 0 0", api.ErrSyntax},
		{"0 01 0", api.ErrSyntax}, {"0 0 x", api.ErrSyntax}, {"0 0 -x", api.ErrSyntax}, {"0 0 - 1", api.ErrSyntax}, {"0,0,0", api.ErrSyntax},
		{"100000000 0 0", api.ErrSyntax}, {"0 100000000 0", api.ErrSyntax}, {"0 0 100000000", api.ErrSyntax}, {"0 0 -100000000", api.ErrSyntax},
		{"99999999 0 0", api.ErrRange}, {"0 99999999 0", api.ErrRange}, {"0 0 99999999", api.ErrRange}, {"0 0 -99999999", api.ErrRange},
		{"10000001 0 0", api.ErrRange}, {"0 10000001 0", api.ErrRange}, {"0 0 10000001", api.ErrRange}, {"0 0 0;0 0 -10000001", api.ErrRange},
		{"99999999 0 0;x", api.ErrSyntax},
		{strings.Repeat("0 0 0;", api.MaxLakeTicks) + "0 0 0", api.ErrLarge},
		{strings.Repeat("99999999 0 0;", api.MaxLakeTicks) + "0 0 0", api.ErrLarge},
		{strings.Repeat("0 0 0;", api.MaxLakeTicks) + "x", api.ErrSyntax},
		{strings.Repeat("x", api.MaxString), api.ErrSyntax},
		{strings.Repeat("x", api.MaxString+1), api.ErrLarge},
	}
	for _, c := range cases {
		if l, e := lake.ParseFlows(c.s); e != c.want || len(l) != 0 {
			t.Errorf("%.40q %v %v", c.s, l, e)
		}
	}
}

// P1.13.
func TestStringsAreReversed(t *testing.T) {
	r := random(14)
	for range 500 {
		x := randomTable(r, 10)
		if y, e := lake.ParseTable(lake.FormatTable(x)); e != api.OK || !slices.Equal(x.Knots, y.Knots) {
			t.Fatal(x, y, e)
		}
		l := randomFlows(r, r.IntN(api.MaxLakeTicks+1), api.MaxLakeFlow)
		if m, e := lake.ParseFlows(lake.FormatFlows(l)); e != api.OK || !slices.Equal(l, m) {
			t.Fatal(l, m, e)
		}
	}
}

// R3 and R4: calls change no argument, and results that were given out are not changed by later calls or by their owner's changes.
func TestMemory(t *testing.T) {
	p, s := raised(), api.LakeState{Upper: 12, Lower: 20}
	l := []api.LakeFlows{{Exchange: 1}, {InUpper: 1, Exchange: -2}}
	net := []int{1, 2}
	readings := []api.LakeReading{reading(0, 50, 51), reading(1, 52, 53)}
	seasons := []api.LakeSeason{{From: 9, To: 3, Level: 4}}
	task := api.LakeTask{Limits: api.LakeLimits{Upper: limit(50, 53, 9, 9, 1), Lower: limit(30, 38, 9, 9, 1)}, Flows: l}
	call := func() []any {
		states, loss, _ := lake.RunOf(p, s, l)
		v, ve := lake.ViolationOf(p, s, task)
		n, _ := lake.PermittedFor(p, s, task)
		m, _ := lake.MinimumOn(seasons, 2)
		a, _ := lake.AgreedOf(p.Upper, net, readings[:1])
		c, _ := lake.Contradicting(p.Upper, net, readings)
		x, _ := lake.ParseTable("1 2;3 4")
		f, _ := lake.ParseFlows("1 2 3;4 5 6")
		return []any{states, loss, v, ve, n, m, a, c, x, f, lake.FormatTable(p.Upper), lake.FormatFlows(l)}
	}
	before := call()
	spoiled := call()
	spoiled[0].([]api.LakeState)[0] = api.LakeState{}
	spoiled[7].([]int)[0] = 9
	spoiled[8].(api.LakeTable).Knots[0] = api.LakeKnot{}
	spoiled[9].([]api.LakeFlows)[0] = api.LakeFlows{}
	if after := call(); !reflect.DeepEqual(before, after) {
		t.Error(before, after)
	}
	given := []any{p, s, l, net, readings, seasons, task.Flows}
	want := []any{
		raised(), api.LakeState{Upper: 12, Lower: 20}, []api.LakeFlows{{Exchange: 1}, {InUpper: 1, Exchange: -2}}, []int{1, 2},
		[]api.LakeReading{reading(0, 50, 51), reading(1, 52, 53)}, []api.LakeSeason{{From: 9, To: 3, Level: 4}},
		[]api.LakeFlows{{Exchange: 1}, {InUpper: 1, Exchange: -2}},
	}
	if !reflect.DeepEqual(given, want) {
		t.Error("an argument was changed", given)
	}
}
