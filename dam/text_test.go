package dam_test

import (
	"math"
	"reflect"
	"strings"
	"testing"

	"guidevane/api"
	"guidevane/dam"
)

const exampleRulesString = "2;50 30;100 80;ann 2;bob 1"

// P9.6 and example 10: strings of any readings and rules, also of those with errors.
func TestFormat(t *testing.T) {
	for want, x := range map[string]api.DamReading{
		"455 10 -7":     {Day: 455, Level: 10, Movement: -7},
		"0 0 0":         {},
		"36000 -50 200": {Day: 36000, Level: -50, Movement: 200},
		"-1 51 2001":    {Day: -1, Level: 51, Movement: 2001},
		"-9223372036854775808 9223372036854775807 -10": {Day: math.MinInt, Level: math.MaxInt, Movement: -10},
	} {
		if s := dam.FormatReading(x); s != want {
			t.Errorf("%q %q", s, want)
		}
	}
	for want, r := range map[string]api.DamRules{
		exampleRulesString:                 exampleRules(),
		"0":                                {},
		"-1":                               {Hold: -1, Up: []int{}, Down: []int{}, Persons: []api.DamPerson{}},
		"0; 0":                             {Persons: []api.DamPerson{{}}},
		"5;1 0;2 0;3 0":                    {Hold: 5, Up: []int{1, 2, 3}},
		"5;0 1;0 2":                        {Hold: 5, Down: []int{1, 2}},
		"5;7 1;0 2":                        {Hold: 5, Up: []int{7}, Down: []int{1, 2}},
		"5;7 1;8 0;a b; -9":                {Hold: 5, Up: []int{7, 8}, Down: []int{1}, Persons: []api.DamPerson{{Name: "a b;", Rank: -9}}},
		"9223372036854775807;-1 -2;1 3":    {Hold: math.MaxInt, Up: []int{-1}, Down: []int{-2}, Persons: []api.DamPerson{{Name: "1", Rank: 3}}},
		"0;a -9223372036854775808;a 0;b 1": {Persons: []api.DamPerson{{Name: "a", Rank: math.MinInt}, {Name: "a"}, {Name: "b", Rank: 1}}},
	} {
		if s := dam.FormatRules(r); s != want {
			t.Errorf("%q %q", s, want)
		}
	}
	many := api.DamRules{Up: make([]int, 300), Down: make([]int, 500), Persons: make([]api.DamPerson, 200)}
	if s := dam.FormatRules(many); s != "0"+strings.Repeat(";0 0", 500)+strings.Repeat("; 0", 200) {
		t.Error(s)
	}
}

// P9.6 and example 10.
func TestParse(t *testing.T) {
	for s, want := range map[string]api.DamReading{
		"455 10 -7":       {Day: 455, Level: 10, Movement: -7},
		"0 0 0":           {},
		"36000 50 2000":   {Day: 36000, Level: 50, Movement: 2000},
		"36000 -50 -2000": {Day: 36000, Level: -50, Movement: -2000},
		"1 -2 3":          {Day: 1, Level: -2, Movement: 3},
	} {
		if x, e := dam.ParseReading(s); x != want || e != api.OK {
			t.Errorf("%q %v %v", s, x, e)
		}
	}
	for s, want := range map[string]api.DamRules{
		exampleRulesString:                exampleRules(),
		dam.FormatRules(largeRules()):     largeRules(),
		"0;1 1":                           {Up: []int{1}, Down: []int{1}},
		"1000000;1000000 1;a 1":           {Hold: 1000000, Up: []int{1000000}, Down: []int{1}, Persons: []api.DamPerson{{Name: "a", Rank: 1}}},
		"3;7 2;8 2;9 9;Z-9 3;z 1;abc-0 2": {Hold: 3, Up: []int{7, 8, 9}, Down: []int{2, 2, 9}, Persons: []api.DamPerson{{Name: "Z-9", Rank: 3}, {Name: "z", Rank: 1}, {Name: "abc-0", Rank: 2}}},
	} {
		if r, e := dam.ParseRules(s); !reflect.DeepEqual(r, want) || e != api.OK {
			t.Errorf("%q %v %v", s, r, e)
		}
	}
}

// badWords are no numbers without a sign.
func badWords() []string {
	return []string{"", "-", "--1", "+1", "-+1", "00", "01", "007", "-0", "-00", "-01", "1x", "0x1", "1_0", "1.0", "1e1", "99999999", "-99999999", "00000001", "99999999999999999999", "-99999999999999999999", "\u0661", "/", ":", "1\t", "\n1", "1-", "1,2", "\xff"}
}

// inPlaces returns strings in which a word stands in each of some places, marked by "#", one after the other; the others have 1.
func inPlaces(s, word string) []string {
	var l []string
	parts := strings.Split(s, "#")
	for at := 1; at < len(parts); at++ {
		l = append(l, strings.Join(parts[:at], "1")+word+strings.Join(parts[at:], "1"))
	}
	return l
}

func expectReading(t *testing.T, want api.Errno, l ...string) {
	t.Helper()
	for _, s := range l {
		if got := call(dam.ParseReading(s)); !failed(got, want) {
			t.Errorf("%.60q %v, want %v", s, got, want)
		}
	}
}

// P9.6: what is malformed, and the error of the reading. A long string is malformed, too.
func TestParseReadingErrors(t *testing.T) {
	for _, word := range append(badWords(), "100000", "-100000", "999999", "x") {
		expectReading(t, api.ErrSyntax, inPlaces("# # #", word)...)
	}
	for _, word := range []string{"-1", "-10", "-99999"} {
		expectReading(t, api.ErrSyntax, word+" 1 1", word+" "+word+" "+word)
	}
	expectReading(t, api.ErrSyntax,
		"", " ", "  ", "1", "1 1", "1 1 ", " 1 1", "1  1", "1 1 1 ", " 1 1 1", "1  1 1", "1 1  1", "1 1 1 1", "1,1,1", "1;1;1", "1 1;1", "1\t1 1", "1 1 1\n", "1 1 1;",
		"99999 1 01", "36001 51", strings.Repeat("1 ", 70000)+"1", strings.Repeat("1", 70000)+" 1 1", strings.Repeat(" ", 70000))
	expectReading(t, api.ErrRange, "36001 0 0", "99999 0 0", "0 51 0", "0 -51 0", "455 99999 0", "455 -99999 0", "0 0 2001", "0 0 -2001", "0 0 99999", "0 0 -99999", "99999 99999 99999")
}

func expectRules(t *testing.T, want api.Errno, l ...string) {
	t.Helper()
	for _, s := range l {
		if got := call(dam.ParseRules(s)); !failed(got, want) {
			t.Errorf("%.60q %v, want %v", s, got, want)
		}
	}
}

// P9.6: what is malformed.
func TestParseRulesSyntax(t *testing.T) {
	for _, word := range append(badWords(), "-1", "10000000", "-9999999") {
		expectRules(t, api.ErrSyntax, inPlaces("#;# #;ann #", word)...)
		expectRules(t, api.ErrSyntax, inPlaces("#;1 1;# #;# #;ann #;bob #", word)...)
	}
	expectRules(t, api.ErrSyntax, inPlaces("#;1 #;ann #", "x")...)
	expectRules(t, api.ErrSyntax,
		"", " ", ";", "2", "2;", ";50 30", "2;;50 30", "2;50 30;", "2 ;50 30", " 2;50 30", "2; 50 30", "2;50 30 ", "2;50  30", "2;50", "2;50 ", "2; 50", "2; ", "2;50 30 20", "2;50,30", "2,50 30", "2 50 30", "2 3;50 30", "ann;50 30", "2;50\t30",
		"2;50 30;ann", "2;50 30;ann ", "2;50 30; ann 1", "2;50 30;ann  1", "2;50 30;ann 1 ", "2;50 30;ann 1 1", "2;50 30;ann x", "2;50 30;ann bob 1", "2;50 30;ann 1;", "2;50 30;;ann 1", "2;50 30;ann", "2;a", "2;50 30;50 a",
		"2;50 30;ann 1;60 40", "2;ann 1;50 30", "2;ann 9;50 60", "2;50 30;ann 1;bob 1;60 40", "2;50 30;ann 1;60 40;bob 1", "2;50 60;ann 0;1",
		"2;50 30;_a 1", "2;50 30;-a 1", "2;50 30;1a 1", "2;50 30;\u00e9 1", "2;50 30;@ 1", "2;50 30;[ 1", "2;50 30;` 1", "2;50 30;{ 1", "2;50 30;\xff 1",
		"x"+exampleRulesString, exampleRulesString+"x", exampleRulesString+"\n")
	long := strings.Repeat("x", api.MaxString)
	expectRules(t, api.ErrSyntax, long, strings.Repeat(";", api.MaxString), strings.Repeat(" ", api.MaxString), strings.Repeat("1", api.MaxString), "0"+strings.Repeat(";0 0", 14999)+" 0")
	expectRules(t, api.ErrLarge, long+"x", strings.Repeat(";", api.MaxString+1), exampleRulesString+strings.Repeat(" ", api.MaxString), long+exampleRulesString)
}

// P9.6: the error of the rules.
func TestParseRulesErrors(t *testing.T) {
	expectRules(t, api.ErrShape, "2;ann 1", "2;ann 1;bob 9999999", "9999999;a 0", "0;a_ 1", "0;a 1;a 1")
	expectRules(t, api.ErrLarge, "2;1 1;2 2;3 3;4 4;5 5;6 6", "2"+strings.Repeat(";0 0", 6), "0"+strings.Repeat(";0 0", 14999), "2;50 30"+strings.Repeat(";a 0", 11))
	expectRules(t, api.ErrRange, "2;0 0", "2;50 0", "2;1000001 30", "2;9999999 9999999", "2;50 30;100 1000001", "1000001;50 30", "9999999;50 30", "2;50 30;ann 2", "2;50 30;ann 0", "2;50 30;100 80;ann 3", "2;50 30;ann 9999999")
	expectRules(t, api.ErrForm, "2;50 60", "2;50 30;100 101", "2;1 1000000", "9999999;1 2")
	expectRules(t, api.ErrOrder, "2;50 30;50 40", "2;50 30;49 40", "2;50 30;60 29", "1000001;50 30;50 40")
	expectRules(t, api.ErrExists, "2;50 30;ann 1;ann 1", "2;50 30;ann 1;bob 1;ann 9")
	for _, name := range badNames() {
		if strings.ContainsAny(name, " ;") || name == "" {
			continue
		}
		want := api.ErrSyntax
		if 'a' <= name[0] && name[0] <= 'z' {
			want = api.ErrName
		}
		expectRules(t, want, "2;50 30;"+name+" 1", "2;50 30;ann 1;"+name+" 0")
	}
	expectRules(t, api.ErrName, "2;50 30;"+strings.Repeat("x", api.MaxString-10)+" 1")
}

// P9.14.
func TestStringsAreReversed(t *testing.T) {
	for _, r := range goodRules() {
		back, e := dam.ParseRules(dam.FormatRules(r))
		if !reflect.DeepEqual(back, r) || e != api.OK {
			t.Fatal(r, back, e)
		}
	}
	r := random(18)
	for i := range 2000 {
		l := randomReadings(r)
		if i%2 == 0 {
			l = extremeReadings(r)
		}
		for _, x := range l {
			if back, e := dam.ParseReading(dam.FormatReading(x)); back != x || e != api.OK {
				t.Fatal(x, back, e)
			}
		}
	}
}
