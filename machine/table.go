package machine

import (
	"iter"

	"guidevane/api"
)

// corner is a point of a row, with the row's opening.
type corner struct {
	api.MachinePoint
	opening int
}

type triangle [3]corner

// CheckTable returns the error of a table, with the index of the row.
func CheckTable(t api.MachineTable) (int, api.Errno) {
	if e := first(unless(len(t.Rows) >= 2, api.ErrShape), unless(len(t.Rows) <= api.MaxMachineRows, api.ErrLarge)); e != api.OK {
		return 0, e
	}
	for i := range len(t.Rows) {
		if e := checkRow(t.Rows, i); e != api.OK {
			return i, e
		}
	}
	for i, x := range triangles(t) {
		if x.area() <= 0 {
			return i, api.ErrClash
		}
	}
	return 0, api.OK
}

// AreaOf returns the sum of the double areas of all triangles.
func AreaOf(t api.MachineTable) (int, api.Errno) {
	if e := checkTable(t); e != api.OK {
		return 0, e
	}
	sum := 0
	for _, x := range triangles(t) {
		sum += x.area()
	}
	return sum, api.OK
}

// BoundsOf returns the ranges of the heads, flows and powers of all points.
func BoundsOf(t api.MachineTable) ([3]api.Range, api.Errno) {
	if e := checkTable(t); e != api.OK {
		return [3]api.Range{}, e
	}
	var bounds [places]api.Range
	for place, n := range tripleOf(t.Rows[0].Points[0]) {
		bounds[place] = api.Range{Lo: n, Hi: n}
	}
	for _, row := range t.Rows {
		for _, p := range row.Points {
			for place, n := range tripleOf(p) {
				bounds[place] = api.Range{Lo: min(bounds[place].Lo, n), Hi: max(bounds[place].Hi, n)}
			}
		}
	}
	return bounds, api.OK
}

// checkTable returns the error of a table without the index of the row.
func checkTable(t api.MachineTable) api.Errno {
	_, e := CheckTable(t)
	return e
}

// checkRow returns the error of a row, after those before it were checked.
func checkRow(rows []api.MachineRow, i int) api.Errno {
	row := rows[i]
	points := len(row.Points)
	e := first(
		checkWithin(row.Opening, 0, api.MaxMachineOpening),
		unless(points >= 2 && points == len(rows[0].Points), api.ErrShape),
		unless(points <= api.MaxMachinePoints, api.ErrLarge),
		checkEach(row.Points, checkPoint))
	if i == 0 {
		return e
	}
	before := rows[i-1].Opening
	return first(e, unless(row.Opening > before, api.ErrOrder), unless(row.Opening <= before+api.MaxMachineStep, api.ErrBreak))
}

func checkPoint(p api.MachinePoint) api.Errno {
	return first(checkSize(p.Head), checkSize(p.Flow), checkPower(p.Power))
}

// triangles ranges over the triangles of a table, each with the index of the row before it.
func triangles(t api.MachineTable) iter.Seq2[int, triangle] {
	return func(yield func(row int, x triangle) bool) {
		at := func(row, point int) corner {
			return corner{t.Rows[row].Points[point], t.Rows[row].Opening}
		}
		for i := range len(t.Rows) - 1 {
			for k := range len(t.Rows[i].Points) - 1 {
				if !yield(i, triangle{at(i, k), at(i, k+1), at(i+1, k)}) || !yield(i, triangle{at(i, k+1), at(i+1, k+1), at(i+1, k)}) {
					return
				}
			}
		}
	}
}

func (x triangle) area() int {
	return areaOf(x[0].MachinePoint, x[1].MachinePoint, x[2].MachinePoint)
}

// areaOf returns the double area of the triangle of three points, which is below 0 if they go round the other way.
func areaOf(a, b, c api.MachinePoint) int {
	return (b.Head-a.Head)*(c.Flow-a.Flow) - (c.Head-a.Head)*(b.Flow-a.Flow)
}
