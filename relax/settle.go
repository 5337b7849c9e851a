package relax

import (
	"slices"

	"minecontrol/api"
	"minecontrol/certify"
	"minecontrol/plan"
)

// settle returns the pressures behind the first round that changes nothing. The direction says what a place gets when it is its turn.
func settle(a api.Air, s api.Setting, start []int, direction func(n network, place int) (int, bool)) ([]int, api.Errno) {
	if code := check(a, s, start); code != api.OK {
		return nil, code
	}
	n, places := network{a, s, slices.Clone(start)}, moving(a.Mine)
	for range api.MaxRounds {
		changed, ok := n.round(places, direction)
		if !ok {
			return nil, api.ErrLimit
		}
		if !changed {
			return n.pressures, api.OK
		}
	}
	return nil, api.ErrLimit
}

// round gives each of some places its new pressure in turn, and reports whether one has changed, and whether there was one for each.
func (n network) round(places []int, direction func(n network, place int) (int, bool)) (changed, ok bool) {
	for _, place := range places {
		pressure, ok := direction(n, place)
		if !ok {
			return false, false
		}
		changed = changed || pressure != n.pressures[place]
		n.pressures[place] = pressure
	}
	return changed, true
}

// check returns the first reason why rounds cannot start with these pressures.
func check(a api.Air, s api.Setting, start []int) api.Errno {
	// For bounds with these pressures the checker lists the same faults in the same order; only that they prove something is not asked of them.
	if code := certify.Check(a, s, api.Bounds{Low: start, High: start}); code != api.OK && code != api.ErrProof {
		return code
	}
	places := moving(a.Mine)
	for place, pressure := range start {
		if pressure != 0 && !slices.Contains(places, place) {
			return api.ErrProof
		}
	}
	return api.OK
}

// moving returns the places that have not a given pressure: those that are neither of the surface nor cut off, ascending.
func moving(m api.Mine) []int {
	lost := plan.CutOff(m)
	var places []int
	for place, p := range m.Places {
		if !p.Surface && !slices.Contains(lost, place) {
			places = append(places, place)
		}
	}
	return places
}
