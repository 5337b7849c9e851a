package branch

import (
	"sort"

	"minecontrol/api"
	"minecontrol/door"
	"minecontrol/fan"
)

// airway is a road with all that resists its air and drives it: its Rest is that of the road and of its doors together.
type airway struct {
	api.Road
	blowers []blower
}

// blower is a fan in a state.
type blower struct {
	api.Fan
	state int
}

// Drop returns the span of the difference of pressure at which this much air flows along an open road.
func Drop(a api.Air, s api.Setting, road, flow int) api.Span {
	w, ok := open(a, s, road)
	if !ok || !within(flow, -api.MaxFlow-1, api.MaxFlow+1) {
		return api.Span{}
	}
	return w.drop(flow)
}

// Flow returns a span of the flow along an open road at a difference of pressure.
func Flow(a api.Air, s api.Setting, road, pressure int) api.Span {
	w, ok := open(a, s, road)
	if !ok {
		return api.Span{}
	}
	// Both ends of the drop increase strictly, so what holds at one flow holds at all greater ones.
	tooMuch := first(func(flow int) bool { return w.drop(flow).High > pressure })
	enough := first(func(flow int) bool { return w.drop(flow).Low >= pressure })
	return api.Span{Low: tooMuch - 1, High: enough}
}

// first returns the least flow from -api.MaxFlow to api.MaxFlow for which something holds that holds for all greater ones, too; api.MaxFlow + 1 if it holds for none.
func first(holds func(flow int) bool) int {
	return sort.Search(2*api.MaxFlow+1, func(i int) bool { return holds(i - api.MaxFlow) }) - api.MaxFlow
}

// open returns a road as an airway, and whether there is such a road, it is open, and the setting is right.
func open(a api.Air, s api.Setting, road int) (airway, bool) {
	if !Right(a, s) || !hasRoad(a, road) || a.Mine.Roads[road].Closed {
		return airway{}, false
	}
	return airwayOf(a, s, road), true
}

// airwayOf returns a road as an airway, in a setting that is right.
func airwayOf(a api.Air, s api.Setting, road int) airway {
	w := airway{Road: a.Mine.Roads[road]}
	for i, d := range a.Doors {
		if d.Road == road {
			w.Rest = plus(w.Rest, door.Rest(d, s.Doors[i]))
		}
	}
	for i, f := range a.Fans {
		if f.Road == road {
			w.blowers = append(w.blowers, blower{Fan: f, state: s.Fans[i]})
		}
	}
	return w
}

// drop returns the span of the difference of pressure at a flow from -api.MaxFlow - 1 to api.MaxFlow + 1.
func (w *airway) drop(flow int) api.Span {
	// The resistance is at most that of the road and of api.MaxDoors doors, 17 * 2^18, so the product is less than 2^63, and all that is taken from it is less than 2^45.
	square := flow * max(flow, -flow)
	drop := less(times(w.Rest, square), w.Lift)
	for _, b := range w.blowers {
		drop = less(drop, fan.At(b.Fan, b.state, flow))
	}
	return drop
}

// plus returns the span of all sums of a number of one span and one of another.
func plus(s, t api.Span) api.Span {
	return api.Span{Low: s.Low + t.Low, High: s.High + t.High}
}

// less returns the span of all differences of a number of one span and one of another.
func less(s, t api.Span) api.Span {
	return api.Span{Low: s.Low - t.High, High: s.High - t.Low}
}

// times returns the span of all numbers of a span, times n.
func times(s api.Span, n int) api.Span {
	return api.Span{Low: min(s.Low*n, s.High*n), High: max(s.Low*n, s.High*n)}
}
