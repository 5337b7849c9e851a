package walk

import (
	"slices"

	"minecontrol/api"
	"minecontrol/plan"
)

// cost is what a way takes: of two ways with the same time the one with fewer roads is better.
type cost struct{ time, roads int }

// less reports whether a cost is better than another one.
func (c cost) less(d cost) bool {
	return c.time < d.time || c.time == d.time && c.roads < d.roads
}

// with returns the cost of a way with one road more.
func (c cost) with(s step) cost {
	return cost{time: c.time + s.time, roads: c.roads + 1}
}

// step is a road that is walked in one direction.
type step struct{ road, from, to, time int }

// Least returns for each place the least time at which somebody who is at a place at its time can be there.
func Least(m api.Mine, from []int) []int {
	if !plan.Valid(m) || len(from) != len(m.Places) || slices.ContainsFunc(from, odd) {
		return nil
	}
	costs := make([]cost, len(from))
	for place, time := range from {
		costs[place].time = time
	}
	spread(costs, steps(m))
	times := make([]int, len(costs))
	for place, c := range costs {
		times[place] = c.time
	}
	return times
}

// Within returns the places that can be reached until a time.
func Within(m api.Mine, from []int, until int) []int {
	var l []int
	for place, time := range Least(m, from) {
		if time < api.Never && time <= until {
			l = append(l, place)
		}
	}
	return l
}

// odd reports whether a number is no time.
func odd(time int) bool {
	return time < 0 || time > api.Never
}

// steps returns the directions of all roads that people can walk, in the order of the roads.
func steps(m api.Mine) []step {
	var l []step
	for road, r := range m.Roads {
		if !walked(r) {
			continue
		}
		for from, to := range directions(r) {
			l = append(l, step{road: road, from: from, to: to, time: clearAir.seconds(r.Length, rise(m, from, to))})
		}
	}
	return l
}

// spread lowers the cost of each place to the least one at which steps lead there from a place with its cost.
func spread(costs []cost, l []step) {
	// A best way meets no place twice, so it has fewer roads than there are places.
	for range costs {
		lowered := false
		for _, s := range l {
			// What is not less than api.Never stays api.Never: without a road it is the best of these costs.
			if c := costs[s.from].with(s); c.less(costs[s.to]) {
				costs[s.to] = c
				lowered = true
			}
		}
		if !lowered {
			return
		}
	}
}
