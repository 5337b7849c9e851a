package walk

import (
	"minecontrol/api"
	"minecontrol/plan"
)

// Way returns the roads of a way that takes the least time, and the time; false if there is no way.
func Way(m api.Mine, from, to int) ([]int, int, bool) {
	if !plan.Valid(m) || !hasPlace(m, from) || !hasPlace(m, to) {
		return nil, 0, false
	}
	l := steps(m)
	left := costsTo(m, to, l)
	if left[from] == (cost{time: api.Never}) {
		return nil, 0, false
	}
	return follow(left, from, l), left[from].time, true
}

// hasPlace reports whether there is a place with this number.
func hasPlace(m api.Mine, place int) bool {
	return place >= 0 && place < len(m.Places)
}

// costsTo returns for each place the least cost of a way from there to a place.
func costsTo(m api.Mine, to int, l []step) []cost {
	costs := make([]cost, len(m.Places))
	for place := range costs {
		costs[place].time = api.Never
	}
	costs[to] = cost{}
	turned := make([]step, len(l))
	for i, s := range l {
		turned[i] = step{road: s.road, from: s.to, to: s.from, time: s.time}
	}
	spread(costs, turned)
	return costs
}

// follow returns the roads of the first way from a place on which only as much is left at each place as a best way needs.
func follow(left []cost, place int, l []step) []int {
	var roads []int
	for range left[place].roads {
		s := next(left, place, l)
		roads = append(roads, s.road)
		place = s.to
	}
	return roads
}

// next returns the first step from a place with which a best way from there can begin.
func next(left []cost, place int, l []step) step {
	for _, s := range l {
		if s.from == place && left[s.to].with(s) == left[place] {
			return s
		}
	}
	return step{road: -1, from: place, to: place}
}
