package governor

import (
	"slices"

	"guidevane/api"
)

// CheckBox returns the error of a box, with the index of the coefficient.
func CheckBox(b api.GovernorBox) (int, api.Errno) {
	if e := checkDegree(b.Coefs); e != api.OK {
		return 0, e
	}
	if i, e := firstItem(b.Coefs, checkEnds); e != api.OK {
		return i, e
	}
	return 0, unless(b.Coefs[0].Lo > 0, api.ErrForm)
}

// CornersOf returns the four corners of a box.
func CornersOf(b api.GovernorBox) ([][]int, api.Errno) {
	if _, e := CheckBox(b); e != api.OK {
		return nil, e
	}
	return cornersOf(b), api.OK
}

// IsRobust returns whether a box is robust.
func IsRobust(b api.GovernorBox) (bool, api.Errno) {
	if _, e := CheckBox(b); e != api.OK {
		return false, e
	}
	unstable := func(p []int) bool { return !isStable(p) }
	return !slices.ContainsFunc(cornersOf(b), unstable), api.OK
}

func checkEnds(r api.Range) api.Errno {
	return first(checkCoef(r.Lo), checkCoef(r.Hi), unless(r.Lo <= r.Hi, api.ErrOrder))
}

// cornersOf returns a corner for each order of the ends L (Lo) and H (Hi), in which the end for the lowest coefficient comes first.
func cornersOf(b api.GovernorBox) [][]int {
	var corners [][]int
	for _, ends := range [4]string{"LLHHL", "HHLLH", "HLLHH", "LHHLL"} {
		corners = append(corners, cornerOf(b, ends))
	}
	return corners
}

func cornerOf(b api.GovernorBox, ends string) []int {
	var p []int
	for i, r := range b.Coefs {
		degree := len(b.Coefs) - 1 - i
		if ends[degree] == 'L' {
			p = append(p, r.Lo)
		} else {
			p = append(p, r.Hi)
		}
	}
	return p
}
