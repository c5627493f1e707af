package sequence_test

import (
	"math"
	"reflect"
	"strings"
	"testing"

	"guidevane/api"
	"guidevane/sequence"
)

// P7.7 and example 9: strings of any plans, also of those with errors.
func TestFormatPlan(t *testing.T) {
	oneStep := func(s api.SequenceStep) api.SequencePlan {
		return api.SequencePlan{Steps: []api.SequenceStep{s}}
	}
	for want, p := range map[string]api.SequencePlan{
		example:                              examplePlan(),
		"0":                                  {},
		" 0":                                 {Signals: []string{""}},
		"a b;  -1":                           {Signals: []string{"a", "b; "}, Start: -1, Steps: []api.SequenceStep{}},
		"a b c d e f g -9223372036854775808": {Signals: strings.Split("abcdefg", ""), Start: math.MinInt},
		"0; - 0 0 0 0 -":                     oneStep(api.SequenceStep{}),
		"0; - 0 0 0 0 -; s 0 0 0 0 -":        {Steps: []api.SequenceStep{{}, {Safe: true}}},
		"0;a, b s 0 0 0 0 -":                 oneStep(api.SequenceStep{Name: "a, b", Safe: true, Exits: []int{}}),
		"0;a s -1 99 0 -7 0":                 oneStep(api.SequenceStep{Name: "a", Safe: true, Needs: -1, Trip: 99, Home: -7, Exits: []int{0}, On: 1, Off: 2, MakesOn: 3, MakesOff: 4, Time: 5, Next: 6, Back: 8}),
		"0;a - 1 2 0 3 9,-1,7,7":             oneStep(api.SequenceStep{Name: "a", Needs: 1, Trip: 2, Home: 3, Exits: []int{9, -1, 7, 7}}),
		"0;a s 1 2 3 4 5 6 7 8 9 10":         oneStep(api.SequenceStep{Name: "a", Safe: true, Needs: 1, Trip: 2, Wait: 3, On: 4, Off: 5, MakesOn: 6, MakesOff: 7, Time: 8, Next: 9, Back: 10, Home: 11, Exits: []int{12}}),
		"0;a - 0 0 -3 -4 -5 -6 -7 -8 -9 -10": oneStep(api.SequenceStep{Name: "a", Wait: -3, On: -4, Off: -5, MakesOn: -6, MakesOff: -7, Time: -8, Next: -9, Back: -10}),
		"0;a - 0 0 9223372036854775807 0 0 0 0 0 0 -9223372036854775808": oneStep(api.SequenceStep{Name: "a", Wait: math.MaxInt, Back: math.MinInt}),
	} {
		if s := sequence.FormatPlan(p); s != want {
			t.Errorf("%q %q", s, want)
		}
	}
	if s := sequence.FormatPlan(sized(300, 300)); strings.Count(s, ";") != 300 || strings.Count(s, " ") != 300+6*300 {
		t.Error(s)
	}
}

// P7.7.
func TestParsePlan(t *testing.T) {
	numbers := planOf(5, 31, api.SequenceStep{Safe: true, Needs: 1, Trip: 1, Home: 2, Exits: []int{0, 2}},
		api.SequenceStep{Needs: 2, Trip: 2, Wait: 10000, On: 3, Off: 4, MakesOn: 5, MakesOff: 10, Time: 10000, Next: 1, Back: 2},
		api.SequenceStep{Needs: 31})
	for s, want := range map[string]api.SequencePlan{
		example:           examplePlan(),
		"0;a s 0 0 0 0 -": planOf(0, 0, api.SequenceStep{Name: "a", Safe: true}),
		"x0 x1 x2 x3 x4 31;s0 s 1 1 0 2 0,2;s1 - 2 2 10000 3 4 5 10 10000 1 2;s2 - 31 0 0 0 -": numbers,
	} {
		if p, e := sequence.ParsePlan(s); !reflect.DeepEqual(p, want) || e != api.OK {
			t.Error(s, p, e)
		}
	}
}

// P7.7: what is malformed, and the errors of the plan.
func TestParsePlanErrors(t *testing.T) {
	first := func(s string) string { return s + ";rest s 0 0 0 0 -" }
	step := func(s string) string { return "open speed 0;rest s 0 0 0 0 -;" + s }
	for _, c := range []struct {
		want  api.Errno
		bring func(string) string
		l     []string
	}{
		{api.ErrSyntax, strings.Clone, []string{"", " ", ";", "0;", ";0", "0;;", ";rest s 0 0 0 0 -", "0;rest s 0 0 0 0 -;", "0;;rest s 0 0 0 0 -", "0,rest s 0 0 0 0 -", "0\nrest s 0 0 0 0 -"}},
		{api.ErrSyntax, first, []string{"", " ", "open", "open ", " 0", "0 ", "open  0", " open 0", "open 0 ", "open  speed 0", "open speed", "open 0 speed", "open,speed,0", "open\t0", "open; 0", "open 0;"}},
		{api.ErrSyntax, first, []string{"-1", "-0", "+0", "00", "01", "x", "0x", "0x1", "1_0", "1.0", "1e1", "1000000", "99999999999999999999", "\u0661", "/", ":", "-", "open -1", "open 01", "open 1000000"}},
		{api.ErrSyntax, step, []string{"", " ", "a", "a -", "a - 0", "a - 0 0", "a - 0 0 0", "a - 0 0 0 ", "a - 0 0 0 0", "a - 0 0 0 0 ", "a - 0 0 0 0 - ", " a - 0 0 0 0 -", "a  - 0 0 0 0 -", "a - 0 0  0 0 -", "a - 0 0 0 0  -", "a - 0 0 0 0 - -", "a - 0 0 0 0 - 0", "a - 0 0 0 - -"}},
		{api.ErrSyntax, step, []string{" - 0 0 0 0 -", "- 0 0 0 0 -", "a 0 0 0 0 -", "a x 0 0 0 0 -", "a S 0 0 0 0 -", "a ss 0 0 0 0 -", "a s- 0 0 0 0 -", "a -- 0 0 0 0 -", "a  0 0 0 0 -", "a 0 0 0 0 0 -", "a safe 0 0 0 0 -"}},
		{api.ErrSyntax, step, []string{"a - 0 0 0 0 ,", "a - 0 0 0 0 0,", "a - 0 0 0 0 ,0", "a - 0 0 0 0 0,,1", "a - 0 0 0 0 0, 1", "a - 0 0 0 0 0 ,1", "a - 0 0 0 0 0 1", "a - 0 0 0 0 -,0", "a - 0 0 0 0 0,-", "a - 0 0 0 0 --", "a - 0 0 0 0 -1", "a - 0 0 0 0 0,-1", "a - 0 0 0 0 00", "a - 0 0 0 0 0,01", "a - 0 0 0 0 +0", "a - 0 0 0 0 x", "a - 0 0 0 0 1000000", "a - 0 0 0 0 0,1000000"}},
		{api.ErrSyntax, step, []string{"a - 0 0 1", "a - 0 0 1 0", "a - 0 0 1 0 -", "a - 0 0 1 0 0", "a - 0 0 1 0 0 0 0 1 0", "a - 0 0 1 0 0 0 0 1 0 ", "a - 0 0 1 0 0 0 0 1 0 0 ", "a - 0 0 1 0 0 0 0 1 0 0 0", "a - 0 0 1 0 0 0 0 1 0 0 -", "a - 0 0 1 0 0 0 0 1 0 -", "a - 0 0 0 0 0 0 0 1 0 0", "a - 0 0 0 0 0 0 0 0 0 0", "a - 0 0 1 0  0 0 0 1 0 0", "a - 0 0 1 0,0 0 0 1 0 0 0"}},
		{api.ErrSyntax, step, []string{"a - 0 0 00 0 -", "a - 0 0 -0 0 -", "a - 0 0 -1 0 0 0 0 1 0 0", "a - 0 0 +1 0 0 0 0 1 0 0", "a - 0 0 x 0 -", "a - 0 0 - 0 -", "a - 0 0 1000000 0 0 0 0 1 0 0", "0;a - 0 0 0 0 -;b"}},
		{api.ErrName, first, []string{"1 0", "- 0", "open speed- _ 0", "0 0", "open\t 0", "abcdefghijklm 0", "a, 0", "\u00e9 0", "\xff 0"}},
		{api.ErrName, step, []string{"- - 0 0 0 0 -", "1 - 0 0 0 0 -", "a, s 0 0 0 0 -", "abcdefghijklm s 0 0 0 0 -", "s\t s 0 0 0 0 -"}},
		{api.ErrExists, strings.Clone, []string{first("open open 0"), step("rest - 0 0 0 0 -")}},
		{api.ErrShape, strings.Clone, []string{"0", "open speed 3", "a b c d e 31"}},
		{api.ErrRange, strings.Clone, []string{first("1"), first("open 2"), first("open speed 999999"), step("a - 4 0 0 0 -"), step("a - 0 0 10001 0 0 0 0 1 0 0"), step("a - 0 0 999999 0 0 0 0 1 0 0"), step("a - 0 0 1 4 0 0 0 1 0 0"), step("a - 0 0 1 0 0 0 999999 1 0 0"), step("a - 0 0 1 0 0 0 0 2 0 0"), step("a - 0 0 1 0 0 0 0 0 0 0")}},
		{api.ErrMissing, step, []string{"a - 0 2 0 0 -", "a - 0 0 0 0 2", "a - 0 0 0 0 0,999999", "a - 0 0 1 0 0 0 0 1 2 0", "a - 0 0 1 0 0 0 0 1 0 2"}},
		{api.ErrOrder, step, []string{"a - 0 0 0 0 0,0", "a - 0 0 0 1 1,0"}},
		{api.ErrOpen, step, []string{"a - 0 0 0 1 -", "a - 0 0 0 1 0", "a - 0 0 0 0 1", "a - 0 0 0 999999 0,1"}},
		{api.ErrForm, step, []string{"a s 0 0 1 0 0 0 0 1 0 0"}},
		{api.ErrClash, step, []string{"a - 0 0 1 1 3 0 0 1 0 0", "a - 0 0 1 0 0 2 2 1 0 0"}},
		{api.ErrState, strings.Clone, []string{"0;a - 0 0 0 0 -", "0;a - 0 0 1 0 0 0 0 1 0 0"}},
		{api.ErrLarge, strings.Clone, []string{first("a b c d e f 0"), sequence.FormatPlan(sized(0, 11)), sequence.FormatPlan(sized(1000, 1000)), strings.Repeat("x", api.MaxString+1), example + strings.Repeat(" ", api.MaxString), strings.Repeat("x", api.MaxString) + example}},
		{api.ErrSyntax, strings.Clone, []string{strings.Repeat("x", api.MaxString), strings.Repeat(";", api.MaxString), strings.Repeat(" ", api.MaxString), sequence.FormatPlan(sized(0, 11)) + " ", first("a b c d e f -1")}},
		{api.ErrName, strings.Clone, []string{strings.Repeat("x", api.MaxString-len(example)) + example}},
	} {
		for _, l := range c.l {
			s := c.bring(l)
			if got := call(sequence.ParsePlan(s)); !failed(got, c.want) {
				t.Errorf("%.80q %v, want %v", s, got, c.want)
			}
		}
	}
}

// P7.7 and example 9.
func TestStatesAndStrings(t *testing.T) {
	for want, s := range map[string]api.SequenceState{
		"2 3": at(2, 3), "0 0": {}, "9 31": at(9, 31), "-1 -2": at(-1, -2), "-9223372036854775808 9223372036854775807": at(math.MinInt, math.MaxInt), "1000000 0": at(1000000, 0),
	} {
		if got := sequence.FormatState(s); got != want {
			t.Errorf("%q %q", got, want)
		}
	}
	for s, want := range map[string]api.SequenceState{"2 3": at(2, 3), "0 0": {}, "9 31": at(9, 31), "999999 999999": at(999999, 999999), "100000 7": at(100000, 7)} {
		if got, e := sequence.ParseState(s); got != want || e != api.OK {
			t.Errorf("%q %v %v", s, got, e)
		}
	}
	for _, s := range []string{
		"", " ", "2", "2 ", " 3", " 2 3", "2 3 ", "2  3", "2 3 4", "2,3", "2\t3", "2 3\n", "2;3", "2 3;", "-1 3", "2 -3", "-0 3", "2 -0", "+2 3", "2 +3", "02 3", "2 03", "00 3", "x 3", "2 x", "0x1 3", "2 1_0", "2 3.0", "2 -", "- 3", "/ 3", "2 :", "1000000 3", "2 1000000", "2 99999999999999999999", "\u0662 3", "2 \xff",
		strings.Repeat("1 ", 70000) + "1", strings.Repeat(" ", 70000), strings.Repeat("1", 70000) + " 1",
	} {
		if got := call(sequence.ParseState(s)); !failed(got, api.ErrSyntax) {
			t.Errorf("%.60q %v", s, got)
		}
	}
}

// P7.14.
func TestStringsAreReversed(t *testing.T) {
	r := random(10)
	for i := range 4000 {
		p := randomPlan(r, kind{5, 10, 10})
		if i < len(goodPlans()) {
			p = goodPlans()[i]
		}
		s := sequence.FormatPlan(p)
		q, e := sequence.ParsePlan(s)
		if e != api.OK || sequence.FormatPlan(q) != s || !samePlan(p, q) {
			t.Fatal(s, p, q, e)
		}
		x := randomState(r, p)
		if y, e := sequence.ParseState(sequence.FormatState(x)); x != y || e != api.OK {
			t.Fatal(x, y, e)
		}
	}
}

// samePlan compares plans; exits and signals that are nil are equal to those that are empty.
func samePlan(p, q api.SequencePlan) bool {
	for _, x := range []*api.SequencePlan{&p, &q} {
		x.Signals = append([]string{}, x.Signals...)
		x.Steps = append([]api.SequenceStep{}, x.Steps...)
		for i := range x.Steps {
			x.Steps[i].Exits = append([]int{}, x.Steps[i].Exits...)
		}
	}
	return reflect.DeepEqual(p, q)
}
