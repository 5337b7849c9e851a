package certify_test

import (
	"minecontrol/api"
	"minecontrol/balance"
)

// spanOf returns a span.
func spanOf(low, high int) api.Span { return api.Span{Low: low, High: high} }

// exactly returns the span of one number.
func exactly(n int) api.Span { return spanOf(n, n) }

// nothing is the span of which nothing is known.
func nothing() api.Span { return spanOf(-1<<50, 1<<50) }

// roadOf returns an open road.
func roadOf(from, to int, rest, lift api.Span) api.Road {
	return api.Road{From: from, To: to, Length: 100, Area: 9, Rest: rest, Lift: lift}
}

// plain returns an open road with one resistance and no lift.
func plain(from, to, rest int) api.Road {
	return roadOf(from, to, exactly(rest), exactly(0))
}

// closed returns a road closed.
func closed(r api.Road) api.Road {
	r.Closed = true
	return r
}

// airOf returns an air with some places, of which only the first one is of the surface, and with roads.
func airOf(places int, roads ...api.Road) api.Air {
	a := api.Air{Mine: api.Mine{Places: make([]api.Place, places), Roads: roads}}
	a.Mine.Places[0].Surface = true
	return a
}

// boundsOf returns bounds.
func boundsOf(low, high []int) api.Bounds { return api.Bounds{Low: low, High: high} }

// blown returns an air in which a fan blows into the place 1, and a road leads back.
func blown() api.Air {
	a := airOf(2, plain(0, 1, 1), plain(1, 0, 1))
	a.Fans = []api.Fan{{Road: 0, Curve: []api.Point{{Flow: 0, Pressure: 500}, {Flow: 20, Pressure: 400}}}}
	return a
}

// proof is what is checked: an air, a setting, and bounds.
type proof struct {
	a api.Air
	s api.Setting
	b api.Bounds
}

// usual returns accepted bounds of an air with places and roads of all kinds: 0 and 3 are of the surface, 4 to 6 are cut off.
func usual() proof {
	var x proof
	x.a.Mine = api.Mine{
		Places: []api.Place{{Surface: true}, {Height: -100}, {Height: -200}, {Height: 5, Surface: true}, {}, {}, {}},
		Roads: []api.Road{
			roadOf(0, 1, spanOf(1, 2), exactly(0)),
			roadOf(1, 2, spanOf(3, 5), spanOf(-20, 30)),
			roadOf(2, 3, spanOf(1, 4), exactly(7)),
			closed(roadOf(3, 1, exactly(9), exactly(5))),
			plain(2, 1, 1),
			plain(3, 0, 2),
			plain(5, 6, 1),
			closed(plain(2, 5, 1)),
			closed(plain(6, 5, 1)),
		},
	}
	x.a.Fans = []api.Fan{
		{Road: 2, Curve: []api.Point{{Flow: 0, Pressure: 100}, {Flow: 3, Pressure: 90}}},
		{Road: 0, Back: true, Curve: []api.Point{{Flow: -2, Pressure: 60}, {Flow: 2, Pressure: 20}}},
	}
	x.a.Doors = []api.Door{
		{Road: 1, Other: 2, Rests: []int{50, 10}},
		{Road: 3, Other: -1, Rests: []int{900, 70, 1}},
		{Road: 4, Other: 0, Rests: []int{8, 0}},
		{Road: 1, Other: -1, Rests: []int{6, 5}},
	}
	x.s = api.Setting{Fans: []int{api.FanOn, -1}, Doors: []int{1, 2, 0, -1}}
	x.b = boundsOf([]int{0, -92, -107, 0, 0, 0, 0}, []int{0, 29, 0, 0, 0, 0, 0})
	return x
}

// outermost returns bounds that are accepted in a setting that is right, and whether they were found: from 0 on, each place with an open road in turn gets its nearest pressure at which surely enough leaves, or comes, until that changes nothing. (A place that is cut off stays at 0 in this, if the roads there have no lift and no fan.)
func outermost(a api.Air, s api.Setting) (api.Bounds, bool) {
	high, up := settled(a, s, balance.Least)
	low, down := settled(a, s, balance.Greatest)
	return boundsOf(low, high), up && down
}

// settled returns pressures at which a search changes nothing for any place below ground, and whether they were found.
func settled(a api.Air, s api.Setting, search func(api.Air, api.Setting, []int, int) (int, bool)) ([]int, bool) {
	pressures := make([]int, len(a.Mine.Places))
	for range 300 {
		changed := false
		for place, p := range a.Mine.Places {
			if p.Surface {
				continue
			}
			pressure, ok := search(a, s, pressures, place)
			if !ok {
				return nil, false
			}
			changed = changed || pressure != pressures[place]
			pressures[place] = pressure
		}
		if !changed {
			return pressures, true
		}
	}
	return nil, false
}

// lost reports for each place whether no open roads lead from it to the surface, by handing on, road by road, what is reached.
func lost(a api.Air) []bool {
	l := make([]bool, len(a.Mine.Places))
	for place, p := range a.Mine.Places {
		l[place] = !p.Surface
	}
	for range a.Mine.Places {
		for _, r := range a.Mine.Roads {
			if !r.Closed && l[r.From] != l[r.To] {
				l[r.From], l[r.To] = false, false
			}
		}
	}
	return l
}

// changed returns pressures with one of them changed.
func changed(pressures []int, place, pressure int) []int {
	l := append([]int{}, pressures...)
	l[place] = pressure
	return l
}

// maker makes numbers that follow one another without a rule that shows.
type maker uint64

// below returns a number from 0 to n - 1.
func (m *maker) below(n int) int {
	*m = *m*6364136223846793005 + 1442695040888963407
	return int(*m >> 33 % maker(n))
}

// upTo returns a number from -n to n.
func (m *maker) upTo(n int) int { return m.below(2*n+1) - n }

// span returns a span from low to high or within.
func (m *maker) span(low, high int) api.Span {
	n := low + m.below(high-low+1)
	return spanOf(n, n+m.below(high-n+1))
}

// road returns a road between two of some places, one of eight closed.
func (m *maker) road(places, scale int) api.Road {
	from := m.below(places)
	r := roadOf(from, (from+1+m.below(places-1))%places, m.span(1, 1+m.below(9)), m.span(-scale, scale))
	r.Closed = m.below(8) == 0
	return r
}

// fan returns a fan in a road.
func (m *maker) fan(road, scale int) api.Fan {
	f := api.Fan{Road: road, Back: m.below(2) == 1}
	flow, pressure := m.upTo(9), 5*scale
	for range 1 + m.below(8) {
		f.Curve = append(f.Curve, api.Point{Flow: flow, Pressure: pressure})
		flow, pressure = flow+1+m.below(9), max(pressure-m.below(scale), 0)
	}
	return f
}

// proof returns an air with a setting and bounds, and whether the bounds were found. Some places are cut off.
func (m *maker) proof() (proof, bool) {
	scale := 1 + m.below(200)
	var x proof
	places, roads := 2+m.below(6), 1+m.below(10)
	for i := range places {
		x.a.Mine.Places = append(x.a.Mine.Places, api.Place{Surface: i == 0 || m.below(5) == 0})
	}
	for range roads {
		x.a.Mine.Roads = append(x.a.Mine.Roads, m.road(places, scale))
	}
	for range m.below(4) {
		x.a.Fans = append(x.a.Fans, m.fan(m.below(roads), scale))
		x.s.Fans = append(x.s.Fans, m.below(4)-1)
	}
	for range m.below(4) {
		rest := m.below(4)
		x.a.Doors = append(x.a.Doors, api.Door{Road: m.below(roads), Other: -1, Rests: []int{rest + 2 + m.below(7), rest + 1, rest}})
		x.s.Doors = append(x.s.Doors, m.below(4)-1)
	}
	return x, m.settle(&x)
}

// settle gives bounds to an air, and reports whether they were found; the searches see no roads between places that are cut off.
func (m *maker) settle(x *proof) bool {
	joined := x.a
	joined.Mine.Roads = append([]api.Road{}, x.a.Mine.Roads...)
	for i, r := range joined.Mine.Roads {
		joined.Mine.Roads[i].Closed = r.Closed || lost(x.a)[r.From]
	}
	var ok bool
	x.b, ok = outermost(joined, x.s)
	return ok
}

// proofs are airs with settings and bounds that a search has found.
func proofs(n int) []proof {
	m := maker(97531)
	var l []proof
	for len(l) < n {
		if x, ok := m.proof(); ok {
			l = append(l, x)
		}
	}
	return l
}
