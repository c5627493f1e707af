package dam

import "guidevane/api"

// newNames returns the check of names that must differ from all those that it checked before.
func newNames() func(name string) api.Errno {
	used := map[string]bool{}
	return func(name string) api.Errno {
		e := first(unless(isName(name), api.ErrName), unless(!used[name], api.ErrExists))
		used[name] = true
		return e
	}
}

func isName(s string) bool {
	if s == "" || len(s) > api.MaxName || !isLetter(s[0]) {
		return false
	}
	for i := range len(s) {
		if c := s[i]; !isLetter(c) && !isDigit(c) && c != '-' {
			return false
		}
	}
	return true
}

func isLetter(c byte) bool {
	return 'a' <= c && c <= 'z' || 'A' <= c && c <= 'Z'
}

func isDigit(c byte) bool {
	return '0' <= c && c <= '9'
}
