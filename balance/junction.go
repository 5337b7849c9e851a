package balance

import (
	"slices"

	"minecontrol/api"
	"minecontrol/branch"
	"minecontrol/plan"
)

// junction is a place with the pressures of all places, and the air around it: all places, but only the roads that end at this one, with their fans and doors. branch.Flow checks the air each time, and a search for a pressure asks for hundreds of flows, so it is worth leaving the rest of the mine out.
type junction struct {
	air       api.Air
	setting   api.Setting
	pressures []int
	place     int
}

// junctionOf returns a place as a junction, in a setting that is right.
func junctionOf(a api.Air, s api.Setting, pressures []int, place int) *junction {
	j := &junction{pressures: pressures, place: place}
	j.air.Mine.Places = a.Mine.Places
	roads := plan.Roads(a.Mine, place)
	for _, road := range roads {
		j.air.Mine.Roads = append(j.air.Mine.Roads, a.Mine.Roads[road])
	}
	for i, f := range a.Fans {
		if f.Road = slices.Index(roads, f.Road); f.Road >= 0 {
			j.air.Fans = append(j.air.Fans, f)
			j.setting.Fans = append(j.setting.Fans, s.Fans[i])
		}
	}
	for i, d := range a.Doors {
		if d.Road = slices.Index(roads, d.Road); d.Road >= 0 {
			// The other door of a double door can be left out, and does not count for the rest of this one.
			d.Other = -1
			j.air.Doors = append(j.air.Doors, d)
			j.setting.Doors = append(j.setting.Doors, s.Doors[i])
		}
	}
	return j
}

// net returns the span of what leaves the place, less what comes, at a pressure of the place. When it grows, neither end falls.
func (j *junction) net(pressure int) api.Span {
	var sum api.Span
	for road := range j.air.Mine.Roads {
		flow := j.leaving(road, pressure)
		sum.Low += flow.Low
		sum.High += flow.High
	}
	return sum
}

// leaving returns the span of what leaves the place by a road, at a pressure of the place; it is 0 to 0 for a closed road, as branch.Flow is.
func (j *junction) leaving(road, pressure int) api.Span {
	other := j.pressures[plan.Other(j.air.Mine, road, j.place)]
	if j.air.Mine.Roads[road].From == j.place {
		return branch.Flow(j.air, j.setting, road, pressure-other)
	}
	coming := branch.Flow(j.air, j.setting, road, other-pressure)
	return api.Span{Low: -coming.High, High: -coming.Low}
}
