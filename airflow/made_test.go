package airflow_test

import (
	"testing"

	"minecontrol/airflow"
	"minecontrol/api"
)

// spanOf returns a span.
func spanOf(low, high int) api.Span { return api.Span{Low: low, High: high} }

// exactly returns the span of one number.
func exactly(n int) api.Span { return spanOf(n, n) }

// nothing is the span of which nothing is known.
func nothing() api.Span { return spanOf(-1<<50, 1<<50) }

// flowsOf returns a list of spans.
func flowsOf(l ...api.Span) []api.Span { return l }

// roadOf returns an open road.
func roadOf(from, to int, rest, lift api.Span) api.Road {
	return api.Road{From: from, To: to, Length: 100, Area: 9, Rest: rest, Lift: lift}
}

// plain returns an open road with one resistance and no lift.
func plain(from, to, rest int) api.Road {
	return roadOf(from, to, exactly(rest), exactly(0))
}

// closed returns a road closed.
func closed(r api.Road) api.Road {
	r.Closed = true
	return r
}

// airOf returns an air with some places, of which only the first one is of the surface, and with roads.
func airOf(places int, roads ...api.Road) api.Air {
	a := api.Air{Mine: api.Mine{Places: make([]api.Place, places), Roads: roads}}
	a.Mine.Places[0].Surface = true
	return a
}

// with returns an air with fans.
func with(a api.Air, fans ...api.Fan) api.Air {
	a.Fans = fans
	return a
}

// fansOf returns a setting of fans alone.
func fansOf(states ...int) api.Setting { return api.Setting{Fans: states} }

// blown returns an air in which a fan blows into the place 1, and a road leads back.
func blown() api.Air {
	a := airOf(2, plain(0, 1, 1), plain(1, 0, 1))
	return with(a, api.Fan{Road: 0, Curve: []api.Point{{Flow: 0, Pressure: 500}, {Flow: 20, Pressure: 400}}})
}

// slow returns an air in which pressures rise (with a lift less than 0) or fall by 1 a round until the lift is overcome: the long road carries no more than 1 up to there, and the short one follows.
func slow(lift int) api.Air {
	return airOf(3, roadOf(1, 0, exactly(1000), exactly(lift)), plain(2, 1, 1))
}

// fastUp returns an air whose pressures rise to high fast, and fall by 1 a round: its fan gives way to air that comes, and lets only 1 leave.
func fastUp(high int) api.Air {
	a := airOf(3, roadOf(1, 0, exactly(1), spanOf(-2000-high, -2000)), plain(2, 1, 1))
	return with(a, api.Fan{Road: 0, Curve: []api.Point{{Flow: 0, Pressure: 2000}, {Flow: 1, Pressure: 0}}})
}

// beside returns an air with roads more that have no part in its pressures: an open and a closed one between places of the surface, an open and a closed one between places that are cut off, and a closed one between both.
func beside(a api.Air) api.Air {
	n := len(a.Mine.Places)
	a.Mine.Places = append(append([]api.Place{}, a.Mine.Places...), api.Place{Surface: true}, api.Place{}, api.Place{})
	a.Mine.Roads = append(append([]api.Road{}, a.Mine.Roads...),
		roadOf(0, n, exactly(1), exactly(400)),
		closed(plain(n, 0, 1)),
		plain(n+1, n+2, 1),
		closed(plain(n+2, n+1, 1)),
		closed(plain(1, n+1, 1)),
	)
	return a
}

// usual returns an air with places and roads of all kinds, and a setting: 0 and 3 are of the surface, 4 to 6 are cut off.
func usual() (api.Air, api.Setting) {
	var a api.Air
	a.Mine = api.Mine{
		Places: []api.Place{{Surface: true}, {Height: -100}, {Height: -200}, {Height: 5, Surface: true}, {}, {}, {}},
		Roads: []api.Road{
			roadOf(0, 1, spanOf(1, 2), exactly(0)),
			roadOf(1, 2, spanOf(3, 5), spanOf(-20, 30)),
			roadOf(2, 3, spanOf(1, 4), exactly(7)),
			closed(roadOf(3, 1, exactly(9), exactly(5))),
			plain(2, 1, 1),
			plain(3, 0, 2),
			plain(5, 6, 1),
			closed(plain(2, 5, 1)),
			closed(plain(6, 5, 1)),
		},
	}
	a.Fans = []api.Fan{
		{Road: 2, Curve: []api.Point{{Flow: 0, Pressure: 100}, {Flow: 3, Pressure: 90}}},
		{Road: 0, Back: true, Curve: []api.Point{{Flow: -2, Pressure: 60}, {Flow: 2, Pressure: 20}}},
	}
	a.Doors = []api.Door{
		{Road: 1, Other: 2, Rests: []int{50, 10}},
		{Road: 3, Other: -1, Rests: []int{900, 70, 1}},
		{Road: 4, Other: 0, Rests: []int{8, 0}},
		{Road: 1, Other: -1, Rests: []int{6, 5}},
	}
	return a, api.Setting{Fans: []int{api.FanOn, -1}, Doors: []int{1, 2, 0, -1}}
}

// same reports whether two lists have the same elements.
func same[T comparable](a, b []T) bool {
	if len(a) != len(b) {
		return false
	}
	for i := range a {
		if a[i] != b[i] {
			return false
		}
	}
	return true
}

// wantAnalyse checks what Analyse answers.
func wantAnalyse(t *testing.T, name string, a api.Air, s api.Setting, want []api.Span, code api.Errno) {
	t.Helper()
	if got, e := airflow.Analyse(a, s); e != code || !same(got, want) {
		t.Errorf("%s: %v and %d, want %v and %d", name, got, e, want, code)
	}
}

// behind returns a list with elements behind its end.
func behind[T any](l []T, more ...T) []T {
	return append(append(make([]T, 0, len(l)+len(more)), l...), more...)[:len(l)]
}

// full returns a copy of a list up to its capacity.
func full[T any](l []T) []T { return append([]T{}, l[:cap(l)]...) }

// maker makes numbers that follow one another without a rule that shows.
type maker uint64

// below returns a number from 0 to n - 1.
func (m *maker) below(n int) int {
	*m = *m*6364136223846793005 + 1442695040888963407
	return int(*m >> 33 % maker(n))
}

// upTo returns a number from -n to n.
func (m *maker) upTo(n int) int { return m.below(2*n+1) - n }

// span returns a span from low to high or within.
func (m *maker) span(low, high int) api.Span {
	n := low + m.below(high-low+1)
	return spanOf(n, n+m.below(high-n+1))
}

// road returns a road between two of some places, one of eight closed, one of six long.
func (m *maker) road(places, scale int) api.Road {
	from, rest := m.below(places), 9
	if m.below(6) == 0 {
		rest = 900
	}
	r := roadOf(from, (from+1+m.below(places-1))%places, m.span(1+m.below(rest), rest), m.span(-scale, scale))
	r.Closed = m.below(8) == 0
	return r
}

// fan returns a fan in a road.
func (m *maker) fan(road, scale int) api.Fan {
	f := api.Fan{Road: road, Back: m.below(2) == 1}
	flow, pressure := m.upTo(9), 5*scale
	for range 1 + m.below(8) {
		f.Curve = append(f.Curve, api.Point{Flow: flow, Pressure: pressure})
		flow, pressure = flow+1+m.below(9), max(pressure-m.below(scale), 0)
	}
	return f
}

// air returns an air, of which some places are cut off, and a setting.
func (m *maker) air() (api.Air, api.Setting) {
	var a api.Air
	var s api.Setting
	scale, places, roads := 1+m.below(300), 2+m.below(4), 1+m.below(8)
	for i := range places {
		a.Mine.Places = append(a.Mine.Places, api.Place{Surface: i == 0 || m.below(5) == 0})
	}
	for range roads {
		a.Mine.Roads = append(a.Mine.Roads, m.road(places, scale))
	}
	for range m.below(4) {
		a.Fans = append(a.Fans, m.fan(m.below(roads), scale))
		s.Fans = append(s.Fans, m.below(4)-1)
	}
	for range m.below(4) {
		rest := m.below(4)
		a.Doors = append(a.Doors, api.Door{Road: m.below(roads), Other: -1, Rests: []int{rest + 2 + m.below(7), rest + 1, rest}})
		s.Doors = append(s.Doors, m.below(4)-1)
	}
	return a, s
}
