package branch

import "minecontrol/api"

// Fits returns the first reason why a state of the air is not possible in a setting, api.OK if there is none.
func Fits(a api.Air, s api.Setting, x api.State) api.Errno {
	if code := Check(a); code != api.OK {
		return code
	}
	switch {
	case !belongs(a, s):
		return api.ErrSetting
	case len(x.Pressures) != len(a.Mine.Places) || len(x.Flows) != len(a.Mine.Roads):
		return api.ErrLength
	case !reachTo(x.Pressures, api.MaxPressure) || !reachTo(x.Flows, api.MaxFlow):
		return api.ErrRange
	case !surfaceIsCalm(a.Mine, x.Pressures) || !flowsFit(a, s, x) || !flowsAddUp(a.Mine, x.Flows):
		return api.ErrState
	}
	return api.OK
}

// reachTo reports whether all numbers are from -limit to limit.
func reachTo(l []int, limit int) bool {
	for _, n := range l {
		if !within(n, -limit, limit) {
			return false
		}
	}
	return true
}

// surfaceIsCalm reports whether the pressure of each place of the surface is 0.
func surfaceIsCalm(m api.Mine, pressures []int) bool {
	for i, p := range m.Places {
		if p.Surface && pressures[i] != 0 {
			return false
		}
	}
	return true
}

// flowsFit reports whether each road has a flow that its difference of pressure permits.
func flowsFit(a api.Air, s api.Setting, x api.State) bool {
	for i, r := range a.Mine.Roads {
		if r.Closed {
			if x.Flows[i] != 0 {
				return false
			}
			continue
		}
		w := airwayOf(a, s, i)
		drop := w.drop(x.Flows[i])
		if !within(x.Pressures[r.From]-x.Pressures[r.To], drop.Low, drop.High) {
			return false
		}
	}
	return true
}

// flowsAddUp reports whether as much air leaves each place as comes, apart from those of the surface.
func flowsAddUp(m api.Mine, flows []int) bool {
	net := make([]int, len(m.Places))
	for i, r := range m.Roads {
		net[r.From] += flows[i]
		net[r.To] -= flows[i]
	}
	for i, p := range m.Places {
		if !p.Surface && net[i] != 0 {
			return false
		}
	}
	return true
}
