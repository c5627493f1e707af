package lake

import "guidevane/api"

// table is a table that was checked.
type table struct{ api.LakeTable }

// piece is two neighbouring knots of a table.
type piece struct{ low, high api.LakeKnot }

// CheckTable returns the error of a table, and the index of its knot.
func CheckTable(t api.LakeTable) (int, api.Errno) {
	e := first(
		when(len(t.Knots) < 2, api.ErrShape),
		when(len(t.Knots) > api.MaxLakeKnots, api.ErrLarge))
	if e != api.OK {
		return 0, e
	}
	return firstItem(len(t.Knots), func(i int) api.Errno { return checkLast(t.Knots[:i+1]) })
}

// VolumeAt returns the volume at a level, rounded down and up.
func VolumeAt(t api.LakeTable, level int) (api.Range, api.Errno) {
	c, e := tableOf(t)
	if e != api.OK {
		return api.Range{}, e
	}
	if !c.hasLevel(level) {
		return api.Range{}, api.ErrRange
	}
	return c.volume(level).enclosure(), api.OK
}

// LevelAt returns the level at a volume, rounded down and up.
func LevelAt(t api.LakeTable, volume int) (api.Range, api.Errno) {
	c, e := tableWith(t, volume)
	if e != api.OK {
		return api.Range{}, e
	}
	return c.level(volume).enclosure(), api.OK
}

// AreaAt returns the area at a volume.
func AreaAt(t api.LakeTable, volume int) (api.Frac, api.Errno) {
	c, e := tableWith(t, volume)
	if e != api.OK {
		return api.Frac{}, e
	}
	p := c.pieceAt(volume)
	return lowest(p.volume(), p.height()), api.OK
}

// checkLast checks the last knot of a table's beginning whose other knots have no error.
func checkLast(knots []api.LakeKnot) api.Errno {
	n := len(knots)
	k := knots[n-1]
	if !within(k.Level, 0, api.MaxLakeLevel) || !within(k.Volume, 0, api.MaxLakeVolume) {
		return api.ErrRange
	}
	if n < 2 {
		return api.OK
	}
	below := piece{low: knots[n-2], high: k}
	if below.height() <= 0 || below.volume() <= 0 {
		return api.ErrOrder
	}
	if n > 2 && below.smaller(piece{low: knots[n-3], high: knots[n-2]}) {
		return api.ErrBreak
	}
	return api.OK
}

// tableOf checks a table.
func tableOf(t api.LakeTable) (table, api.Errno) {
	_, e := CheckTable(t)
	return table{t}, e
}

// tableWith checks a table, and a volume of it.
func tableWith(t api.LakeTable, volume int) (table, api.Errno) {
	c, e := tableOf(t)
	if e == api.OK && !c.hasVolume(volume) {
		e = api.ErrRange
	}
	return c, e
}

func (t table) bottom() api.LakeKnot { return t.Knots[0] }

func (t table) top() api.LakeKnot { return t.Knots[len(t.Knots)-1] }

func (t table) hasLevel(level int) bool {
	return within(level, t.bottom().Level, t.top().Level)
}

func (t table) hasVolume(volume int) bool {
	return within(volume, t.bottom().Volume, t.top().Volume)
}

// firstPiece returns the first piece whose upper knot is high enough. The top always is.
func (t table) firstPiece(enough func(k api.LakeKnot) bool) piece {
	i := 1
	for i < len(t.Knots)-1 && !enough(t.Knots[i]) {
		i++
	}
	return piece{low: t.Knots[i-1], high: t.Knots[i]}
}

// pieceAt returns the piece to which a volume belongs.
func (t table) pieceAt(volume int) piece {
	return t.firstPiece(func(k api.LakeKnot) bool { return k.Volume >= volume })
}

func (t table) volume(level int) mixed {
	p := t.firstPiece(func(k api.LakeKnot) bool { return k.Level >= level })
	return straight(level, p.low.Level, p.high.Level, p.low.Volume, p.high.Volume)
}

func (t table) level(volume int) mixed {
	p := t.pieceAt(volume)
	return straight(volume, p.low.Volume, p.high.Volume, p.low.Level, p.high.Level)
}

func (p piece) height() int { return p.high.Level - p.low.Level }

func (p piece) volume() int { return p.high.Volume - p.low.Volume }

// smaller tells whether the area of a piece is less than that of another one.
func (p piece) smaller(other piece) bool {
	return p.volume()*other.height() < other.volume()*p.height()
}
