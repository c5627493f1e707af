package dam

import "guidevane/api"

// CheckBasin returns the error of emptying rules, with the index of the layer.
func CheckBasin(b api.DamBasin) (int, api.Errno) {
	layers := len(b.Volumes)
	if e := first(
		unless(len(b.Outflows) == layers, api.ErrShape),
		checkCount(layers, api.MaxDamLayers)); e != api.OK {
		return 0, e
	}
	return firstItem(layers, func(i int) api.Errno {
		return first(
			checkWithin(0, api.MaxDamVolume, b.Volumes[i]),
			checkWithin(1, api.MaxDamVolume, b.Outflows[i]))
	})
}

// EmptyingOf returns the time to empty so many layers.
func EmptyingOf(b api.DamBasin, layers int) (int, api.Errno) {
	_, e := CheckBasin(b)
	if e := first(e, checkWithin(0, len(b.Volumes), layers)); e != api.OK {
		return 0, e
	}
	time := 0
	for i, volume := range b.Volumes[:layers] {
		time += rounded(volume, b.Outflows[i]).Hi
	}
	return time, api.OK
}
