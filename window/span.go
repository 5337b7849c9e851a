package window

import (
	"math"

	"minecontrol/api"
	"minecontrol/sensor"
)

// empty reports whether no number lies in a span.
func empty(s api.Span) bool { return s.Low > s.High }

// Meet returns the numbers that are in all spans, and whether there is one.
func Meet(l []api.Span) (api.Span, bool) {
	if len(l) == 0 {
		return sensor.Nothing(), true
	}
	met := l[0]
	for _, s := range l {
		met.Low, met.High = max(met.Low, s.Low), min(met.High, s.High)
	}
	if empty(met) {
		return sensor.Nothing(), false
	}
	return met, true
}

// Hull returns the least span that contains all spans in which there is a number.
func Hull(l []api.Span) api.Span {
	hull := api.Span{Low: math.MaxInt, High: math.MinInt}
	for _, s := range l {
		if !empty(s) {
			hull.Low, hull.High = min(hull.Low, s.Low), max(hull.High, s.High)
		}
	}
	if empty(hull) {
		return sensor.Nothing()
	}
	return hull
}

// Above returns whether the numbers of a span are at least value.
func Above(s api.Span, value int) int {
	switch {
	case empty(s):
		return api.Unknown
	case s.Low >= value:
		return api.True
	case s.High < value:
		return api.False
	}
	return api.Unknown
}
