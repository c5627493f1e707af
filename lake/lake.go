// Package lake keeps two lakes by tables of levels and volumes. It is chapter 1 of the document.
package lake

import "guidevane/api"

// first returns the first error of the checks. A check runs only if none before it found an error, so that it may rely on them.
func first(checks ...func() api.Errno) api.Errno {
	for _, check := range checks {
		if e := check(); e != api.OK {
			return e
		}
	}
	return api.OK
}

// firstItem returns the index of the first of n items that has an error, and its error.
func firstItem(n int, check func(i int) api.Errno) (int, api.Errno) {
	for i := range n {
		if e := check(i); e != api.OK {
			return i, e
		}
	}
	return 0, api.OK
}

// each returns the check of n items, one after the other.
func each(n int, check func(i int) api.Errno) func() api.Errno {
	return func() api.Errno {
		_, e := firstItem(n, check)
		return e
	}
}

// when returns a check of what is known already, before any other check.
func when(broken bool, e api.Errno) func() api.Errno {
	return func() api.Errno {
		if broken {
			return e
		}
		return api.OK
	}
}

// within compares without a difference or an absolute value, which could overflow.
func within(n, lo, hi int) bool {
	return lo <= n && n <= hi
}
