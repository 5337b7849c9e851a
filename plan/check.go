// Package plan is layer 1: the mine, its checks, its changes, and what open roads connect. See shared/doc/01-plan.md.
package plan

import "minecontrol/api"

// Check returns the first error of a mine, api.OK if it has none.
func Check(m api.Mine) api.Errno {
	if len(m.Places) > api.MaxPlaces || len(m.Roads) > api.MaxRoads {
		return api.ErrLimit
	}
	for _, p := range m.Places {
		if !within(p.Height, -api.MaxHeight, api.MaxHeight) {
			return api.ErrRange
		}
	}
	for _, r := range m.Roads {
		if code := checkRoad(r, len(m.Places)); code != api.OK {
			return code
		}
	}
	return api.OK
}

// Valid reports whether a mine has no error.
func Valid(m api.Mine) bool {
	return Check(m) == api.OK
}

// checkRoad returns the first error of a road of a mine with so many places.
func checkRoad(r api.Road, places int) api.Errno {
	switch {
	case !within(r.From, 0, places-1), !within(r.To, 0, places-1), r.From == r.To:
		return api.ErrRoad
	case !within(r.Length, 1, api.MaxLength), !within(r.Area, 1, api.MaxArea):
		return api.ErrRange
	case !spans(r.Rest, 1, api.MaxRest), !spans(r.Lift, -api.MaxLift, api.MaxLift):
		return api.ErrRange
	}
	return api.OK
}

// within reports whether low <= n <= high.
func within(n, low, high int) bool {
	return low <= n && n <= high
}

// spans reports whether s is not empty and lies from low to high.
func spans(s api.Span, low, high int) bool {
	return low <= s.Low && s.Low <= s.High && s.High <= high
}
