package dispatch_test

import (
	"math"
	"reflect"
	"strings"
	"testing"

	"guidevane/api"
	"guidevane/dispatch"
)

// The strings of the examples.
const (
	examplePlantString = "0 10;rest 0 0 0;pump 3 -4 5;turbine -3 3 2"
	exampleTaskString  = "4 0 1;2 1 0;12 10 1"
)

// P8.7 and example 8: strings of any plants, also of those with errors.
func TestFormatPlant(t *testing.T) {
	for want, p := range map[string]api.DispatchPlant{
		examplePlantString:        examplePlant(),
		"0 0":                     {},
		"-1 -9223372036854775808": {Lo: -1, Hi: math.MinInt, Modes: []api.DispatchMode{}},
		"9 3; 0 0 0":              {Lo: 9, Hi: 3, Modes: make([]api.DispatchMode, 1)},
		"1 2;a; b -1 2 -3; 4 5 6": {Lo: 1, Hi: 2, Modes: []api.DispatchMode{{Name: "a; b", Change: -1, Energy: 2, Start: -3}, {Change: 4, Energy: 5, Start: 6}}},
		"1 2;a 9223372036854775807 -9223372036854775808 10000000": {Lo: 1, Hi: 2, Modes: []api.DispatchMode{{Name: "a", Change: math.MaxInt, Energy: math.MinInt, Start: 10000000}}},
	} {
		if s := dispatch.FormatPlant(p); s != want {
			t.Errorf("%q %q", s, want)
		}
	}
	if s := dispatch.FormatPlant(api.DispatchPlant{Modes: modesOf(300)}); strings.Count(s, ";") != 300 || strings.Count(s, " ") != 901 {
		t.Error(s)
	}
}

// P8.7 and example 8: strings of any tasks, also of those with errors.
func TestFormatTask(t *testing.T) {
	for want, x := range map[string]api.DispatchTask{
		exampleTaskString:            exampleTask(),
		"0 0 0":                      {},
		"-1 -2 -9223372036854775808": {Volume: -1, Mode: -2, Worth: math.MinInt, Hours: []api.DispatchHour{}},
		"1 2 3;0 0 0;-4 5 -6":        {Volume: 1, Mode: 2, Worth: 3, Hours: []api.DispatchHour{{}, {Buy: -4, Sell: 5, Inflow: -6}}},
		"0 0 0;9223372036854775807 -9223372036854775808 10000000": {Hours: []api.DispatchHour{{Buy: math.MaxInt, Sell: math.MinInt, Inflow: 10000000}}},
	} {
		if s := dispatch.FormatTask(x); s != want {
			t.Errorf("%q %q", s, want)
		}
	}
	if s := dispatch.FormatTask(api.DispatchTask{Hours: make([]api.DispatchHour, 300)}); s != "0 0 0"+strings.Repeat(";0 0 0", 300) {
		t.Error(s)
	}
}

// P8.7.
func TestParsePlant(t *testing.T) {
	large, _ := largeTask()
	for s, want := range map[string]api.DispatchPlant{
		examplePlantString:                       examplePlant(),
		dispatch.FormatPlant(large):              large,
		"0 0;a 0 0 0":                            {Modes: []api.DispatchMode{{Name: "a"}}},
		"999961 1000000;z-9 -10000 -10000 10000": {Lo: 999961, Hi: 1000000, Modes: []api.DispatchMode{{Name: "z-9", Change: -10000, Energy: -10000, Start: 10000}}},
		"7 8;a 1 2 3;b 4 5 6;c -7 -8 9":          {Lo: 7, Hi: 8, Modes: []api.DispatchMode{{Name: "a", Change: 1, Energy: 2, Start: 3}, {Name: "b", Change: 4, Energy: 5, Start: 6}, {Name: "c", Change: -7, Energy: -8, Start: 9}}},
	} {
		if p, e := dispatch.ParsePlant(s); !reflect.DeepEqual(p, want) || e != api.OK {
			t.Error(s, p, e)
		}
	}
}

// badNumbers are no numbers with at most 7 digits, with or without a sign.
func badNumbers() []string {
	return []string{"", "-", "--1", "+1", "-+1", "+-1", "00", "01", "007", "-0", "-00", "-01", "x", "1x", "0x1", "1_0", "1.0", "1e1", "10000000", "-10000000", "99999999", "00000001", "99999999999999999999", "-99999999999999999999", "\u0661", "/", ":", "1\t", "\n1", "1-", "1,2"}
}

// inPlaces returns strings in which a word stands in each of some places, marked by "#", one after the other; the others have 1.
func inPlaces(s, word string) []string {
	var l []string
	parts := strings.Split(s, "#")
	for at := 1; at < len(parts); at++ {
		l = append(l, strings.Join(parts[:at], "1")+word+strings.Join(parts[at:], "1"))
	}
	return l
}

func expectPlant(t *testing.T, want api.Errno, l ...string) {
	t.Helper()
	for _, s := range l {
		if got := call(dispatch.ParsePlant(s)); !failed(got, want) {
			t.Errorf("%.80q %v, want %v", s, got, want)
		}
	}
}

// P8.7: what is malformed, and the errors of the plant.
func TestParsePlantErrors(t *testing.T) {
	for _, word := range badNumbers() {
		expectPlant(t, api.ErrSyntax, inPlaces("# #;a # # #;b # # #", word)...)
	}
	for _, word := range []string{"-1", "-5", "-9999999"} {
		expectPlant(t, api.ErrSyntax, inPlaces("# #;a 0 0 0", word)...)
		expectPlant(t, api.ErrSyntax, word+" "+word)
	}
	expectPlant(t, api.ErrRange, inPlaces("# #;a # # #;b # # #", "9999999")...)
	expectPlant(t, api.ErrRange, inPlaces("1 1;a # # #;b # # #", "-9999999")...)
	expectPlant(t, api.ErrRange, "0 10;a 0 0 -1", "1000001 1000001;a 0 0 0", "0 1000001", "1000001 0;1 0 0 0", "0 0;a 10001 0 0", "0 0;a -10001 0 0", "0 0;a 0 10001 0", "0 0;a 0 -10001 0", "0 0;a 0 0 10001")
	expectPlant(t, api.ErrSyntax,
		"", " ", ";", "0", "0 ", " 0", "0;", "0 10;", "0 10;;a 0 0 0", ";0 10;a 0 0 0", "0 10;a 0 0 0;", "0  10;a 0 0 0", " 0 10;a 0 0 0", "0 10 ;a 0 0 0", "0 10; a 0 0 0", "0 10;a 0 0 0 ", "0 10;a 0 0 0 ;b 0 0 0",
		"0 10 20;a 0 0 0", "0;a 0 0 0", "0 10;a", "0 10;a ", "0 10;a 0", "0 10;a 0 0", "0 10;a 0 0 ", "0 10;a 0 0 0 0", "0 10;a  0 0 0", "0 10;a 0  0 0", "0 10;a 0 0  0", "0 10; 0 0 0", "0 10;0 0 0", "0 10;a a 0 0 0", "0 10;a b 0 0", "0 10,a 0 0 0", "0 10\na 0 0 0", "0 10;a\t0 0 0", "a 0 0 0", "a 0 0 0;0 10", "0,10;a 0 0 0", "0-10;a 0 0 0",
		"5 4;a 0 0", "0 10;1 0 0", "0 40;a 0 0 0;b", "x"+examplePlantString, examplePlantString+"x")
	expectPlant(t, api.ErrShape, "0 10", "0 0", "1000000 1000000", "5 44")
	expectPlant(t, api.ErrOrder, "5 4;a 0 0 0", "1000000 0", "1 0;1 0 0 0")
	expectPlant(t, api.ErrLarge, "0 40;a 0 0 0", "0 40", "0 1000000;a 0 0 -1", dispatch.FormatPlant(api.DispatchPlant{Modes: modesOf(6)}), dispatch.FormatPlant(api.DispatchPlant{Modes: modesOf(1000)}))
	for _, name := range badNames() {
		if name != "" && !strings.ContainsAny(name, " ;") {
			expectPlant(t, api.ErrName, "0 10;"+name+" 0 0 0", "0 10;a 0 0 0;"+name+" 0 10001 0")
		}
	}
	expectPlant(t, api.ErrName, "0 10;0 0 0 0", "0 10;- 0 0 0", "0 10;-1 0 0 0", "0 10;1 1 1 1")
	expectPlant(t, api.ErrExists, "0 10;a 0 0 0;a 0 0 0", "0 10;a 0 0 0;b 0 0 0;a 0 0 -1", "0 10;rest 0 0 0;rest 9999999 0 0")
	long := strings.Repeat("x", api.MaxString)
	expectPlant(t, api.ErrLarge, long+"x", long+examplePlantString, examplePlantString+strings.Repeat(" ", api.MaxString), strings.Repeat(";", api.MaxString+1))
	expectPlant(t, api.ErrSyntax, long, strings.Repeat(";", api.MaxString), strings.Repeat(" ", api.MaxString), strings.Repeat("0 ", api.MaxString/2), "0 "+strings.Repeat("0", api.MaxString-2))
	expectPlant(t, api.ErrName, "0 0;"+long[10:]+" 0 0 0")
	expectPlant(t, api.ErrLarge, "0 0;"+long[9:]+" 0 0 0")
}

// P8.7: tasks need not be those of a plant.
func TestParseTask(t *testing.T) {
	_, large := largeTask()
	seven := api.DispatchHour{Buy: -9999999, Sell: 9999999, Inflow: -9999999}
	for s, want := range map[string]api.DispatchTask{
		exampleTaskString:          exampleTask(),
		dispatch.FormatTask(large): large,
		"0 0 0;0 0 0":              {Hours: make([]api.DispatchHour, 1)},
		"9999999 9999999 -9999999;-9999999 9999999 -9999999": {Volume: 9999999, Mode: 9999999, Worth: -9999999, Hours: []api.DispatchHour{seven}},
		"1 2 3;-4 -5 -6;7 8 9":                               {Volume: 1, Mode: 2, Worth: 3, Hours: []api.DispatchHour{{Buy: -4, Sell: -5, Inflow: -6}, {Buy: 7, Sell: 8, Inflow: 9}}},
	} {
		if x, e := dispatch.ParseTask(s); !reflect.DeepEqual(x, want) || e != api.OK {
			t.Error(s, x, e)
		}
	}
	if x, e := dispatch.ParseTask("4 0 -1"); x.Volume != 4 || x.Mode != 0 || x.Worth != -1 || len(x.Hours) != 0 || e != api.OK {
		t.Error(x, e)
	}
	if x, e := dispatch.ParseTask("0 0 0" + strings.Repeat(";0 1 2", 9999)); len(x.Hours) != 9999 || x.Hours[9998] != (api.DispatchHour{Sell: 1, Inflow: 2}) || e != api.OK {
		t.Error(len(x.Hours), e)
	}
}

func expectTask(t *testing.T, want api.Errno, l ...string) {
	t.Helper()
	for _, s := range l {
		if got := call(dispatch.ParseTask(s)); !failed(got, want) {
			t.Errorf("%.80q %v, want %v", s, got, want)
		}
	}
}

// P8.7.
func TestParseTaskErrors(t *testing.T) {
	for _, word := range badNumbers() {
		expectTask(t, api.ErrSyntax, inPlaces("# # #;# # #;# # #", word)...)
	}
	for _, word := range []string{"-1", "-5", "-9999999"} {
		expectTask(t, api.ErrSyntax, inPlaces("# # 1;1 1 1", word)...)
	}
	expectTask(t, api.ErrSyntax,
		"", " ", ";", "0", "0 0", "0 0 ", "0 0 0 ", " 0 0 0", "0  0 0", "0 0  0", "0 0 0 0", "0 0;0", "0 0 0;", ";0 0 0", "0 0 0;;0 0 0", "0 0 0;0 0 0;", "0 0 0 ;0 0 0", "0 0 0; 0 0 0", "0 0 0;0 0 0 ", "0 0 0;0 0", "0 0 0;0 0 0 0", "0 0 0;0  0 0", "0 0 0;0", "0 0 0; ", "0 0 0,0 0 0", "0 0 0\n0 0 0", "0,0,0", "0 0 0;a 0 0", "0 0 0;a 0 0 0", "a 0 0", "0\t0 0", "x"+exampleTaskString, exampleTaskString+"x", examplePlantString)
	long := strings.Repeat("1", api.MaxString)
	expectTask(t, api.ErrLarge, long+"1", "0 0 0"+strings.Repeat(";0 0 0", 10000), exampleTaskString+strings.Repeat(" ", api.MaxString), strings.Repeat(";", api.MaxString+1))
	expectTask(t, api.ErrSyntax, long, "0 0 "+long[4:], strings.Repeat(";", api.MaxString), strings.Repeat(" ", api.MaxString), "0 0 0"+strings.Repeat(";0 0 0", 9999)+" ")
}

// P8.12.
func TestStringsAreReversed(t *testing.T) {
	r := random(19)
	for i := range 3000 {
		p, x := randomTask(r, anyKind(r))
		if i < len(goodPlants()) {
			p = goodPlants()[i]
		}
		if q, e := dispatch.ParsePlant(dispatch.FormatPlant(p)); !reflect.DeepEqual(p, q) || e != api.OK {
			t.Fatal(p, q, e)
		}
		if y, e := dispatch.ParseTask(dispatch.FormatTask(x)); !reflect.DeepEqual(x, y) || e != api.OK {
			t.Fatal(x, y, e)
		}
	}
}
