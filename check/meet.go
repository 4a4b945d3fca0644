package check

import "tariff/api"

// meets tells whether a value may be of both types.
func meets(a, b api.Type) bool {
	switch {
	case a == anything || b == anything || a == b:
		return true
	case a.Kind == api.List && b.Kind == api.List:
		return a == list || b == list
	}
	return false
}

// allMeet tells whether all types meet one.
func allMeet(types []api.Type, one api.Type) bool {
	for _, t := range types {
		if !meets(t, one) {
			return false
		}
	}
	return true
}

// ordered tells whether values of both types may be less than one another.
func ordered(a, b api.Type) bool {
	both := []api.Type{a, b}
	return allMeet(both, number) || allMeet(both, text) || allMeet(both, day)
}
