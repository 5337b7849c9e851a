package relax_test

import (
	"minecontrol/api"
	"minecontrol/balance"
)

const most = 1 << 46 // the greatest pressure

// spanOf returns a span.
func spanOf(low, high int) api.Span { return api.Span{Low: low, High: high} }

// exactly returns the span of one number.
func exactly(n int) api.Span { return spanOf(n, n) }

// roadOf returns an open road.
func roadOf(from, to int, rest, lift api.Span) api.Road {
	return api.Road{From: from, To: to, Length: 100, Area: 9, Rest: rest, Lift: lift}
}

// plain returns an open road with one resistance and no lift.
func plain(from, to, rest int) api.Road {
	return roadOf(from, to, exactly(rest), exactly(0))
}

// closed returns a road closed.
func closed(r api.Road) api.Road {
	r.Closed = true
	return r
}

// airOf returns an air with some places, of which only the first one is of the surface, and with roads.
func airOf(places int, roads ...api.Road) api.Air {
	a := api.Air{Mine: api.Mine{Places: make([]api.Place, places), Roads: roads}}
	a.Mine.Places[0].Surface = true
	return a
}

// with returns an air with fans.
func with(a api.Air, fans ...api.Fan) api.Air {
	a.Fans = fans
	return a
}

// blown returns an air in which a fan blows into the place 1, and a road leads back.
func blown() api.Air {
	a := airOf(2, plain(0, 1, 1), plain(1, 0, 1))
	return with(a, api.Fan{Road: 0, Curve: []api.Point{{Flow: 0, Pressure: 500}, {Flow: 20, Pressure: 400}}})
}

// chain returns an air in which each place below ground has a road with this lift to the one ahead of it, and the first one to the surface.
func chain(lifts ...int) api.Air {
	a := airOf(len(lifts) + 1)
	for i, lift := range lifts {
		a.Mine.Roads = append(a.Mine.Roads, roadOf(i+1, i, exactly(1), exactly(lift)))
	}
	return a
}

// slow returns an air in which pressures rise (with a lift less than 0) or fall by 1 a round: as long as the lift is not overcome, the long road from the place near to the surface carries 1 up to a lift of 1000, and the short one to the place far, which follows, carries 1 as soon as the pressures differ by 1.
func slow(near, far, lift int) api.Air {
	return airOf(3, roadOf(near, 0, exactly(1000), exactly(lift)), plain(far, near, 1))
}

// made is with what Rise and Fall begin.
type made struct {
	a     api.Air
	s     api.Setting
	start []int
}

// of returns an air without fans and doors, with pressures.
func of(a api.Air, start ...int) made { return made{a: a, start: start} }

// usual returns an air with places and roads of all kinds, and pressures: 0 and 3 are of the surface, 4 to 6 are cut off.
func usual() made {
	var x made
	x.a.Mine = api.Mine{
		Places: []api.Place{{Surface: true}, {Height: -100}, {Height: -200}, {Height: 5, Surface: true}, {}, {}, {}},
		Roads: []api.Road{
			roadOf(0, 1, spanOf(1, 2), exactly(0)),
			roadOf(1, 2, spanOf(3, 5), spanOf(-20, 30)),
			roadOf(2, 3, spanOf(1, 4), exactly(7)),
			closed(roadOf(3, 1, exactly(9), exactly(5))),
			plain(2, 1, 1),
			plain(3, 0, 2),
			roadOf(5, 6, exactly(1), exactly(300)),
			closed(plain(2, 5, 1)),
			closed(plain(6, 5, 1)),
		},
	}
	x.a.Fans = []api.Fan{
		{Road: 2, Curve: []api.Point{{Flow: 0, Pressure: 100}, {Flow: 3, Pressure: 90}}},
		{Road: 0, Back: true, Curve: []api.Point{{Flow: -2, Pressure: 60}, {Flow: 2, Pressure: 20}}},
	}
	x.a.Doors = []api.Door{
		{Road: 1, Other: 2, Rests: []int{50, 10}},
		{Road: 3, Other: -1, Rests: []int{900, 70, 1}},
		{Road: 4, Other: 0, Rests: []int{8, 0}},
		{Road: 1, Other: -1, Rests: []int{6, 5}},
	}
	x.s = api.Setting{Fans: []int{api.FanOn, -1}, Doors: []int{1, 2, 0, -1}}
	x.start = make([]int, 7)
	return x
}

// search is balance.Least or balance.Greatest.
type search func(a api.Air, s api.Setting, pressures []int, place int) (int, bool)

// settled is what chapter 12 says of the rounds, for arguments without an error, with the number of rounds; it gives up behind one round more than is permitted.
func settled(x made, l []int, next search) ([]int, int, bool) {
	pressures := append([]int{}, x.start...)
	for rounds := 1; rounds <= 201; rounds++ {
		before := append([]int{}, pressures...)
		for _, place := range l {
			pressure, ok := next(x.a, x.s, pressures, place)
			if !ok {
				return nil, rounds, false
			}
			pressures[place] = pressure
		}
		if same(before, pressures) {
			return pressures, rounds, true
		}
	}
	return nil, 201, false
}

// wanted is what Rise must answer with balance.Least, and Fall with balance.Greatest, for arguments without an error.
func wanted(x made, next search) ([]int, api.Errno) {
	pressures, rounds, ok := settled(x, moving(x.a), next)
	if !ok || rounds > 200 {
		return nil, api.ErrLimit
	}
	return pressures, api.OK
}

// solved is what Solve must answer for an air and a setting without an error.
func solved(a api.Air, s api.Setting) (api.Bounds, api.Errno) {
	bottom, code := wanted(made{a, s, make([]int, len(a.Mine.Places))}, balance.Greatest)
	if code != api.OK {
		return api.Bounds{}, code
	}
	high, code := wanted(made{a, s, bottom}, balance.Least)
	if code != api.OK {
		return api.Bounds{}, code
	}
	low, code := wanted(made{a, s, high}, balance.Greatest)
	if code != api.OK {
		return api.Bounds{}, code
	}
	return api.Bounds{Low: low, High: high}, api.OK
}

// same reports whether two lists have the same numbers.
func same(a, b []int) bool {
	if len(a) != len(b) {
		return false
	}
	for i := range a {
		if a[i] != b[i] {
			return false
		}
	}
	return true
}

// moving are the places whose pressures are searched, ascending.
func moving(a api.Air) []int {
	var l []int
	for place, apart := range lost(a) {
		if !apart && !a.Mine.Places[place].Surface {
			l = append(l, place)
		}
	}
	return l
}

// lost reports for each place whether no open roads lead from it to the surface, by handing on, road by road, what is reached.
func lost(a api.Air) []bool {
	l := make([]bool, len(a.Mine.Places))
	for place, p := range a.Mine.Places {
		l[place] = !p.Surface
	}
	for range a.Mine.Places {
		for _, r := range a.Mine.Roads {
			if !r.Closed && l[r.From] != l[r.To] {
				l[r.From], l[r.To] = false, false
			}
		}
	}
	return l
}

// changed returns pressures with one of them changed.
func changed(pressures []int, place, pressure int) []int {
	l := append([]int{}, pressures...)
	l[place] = pressure
	return l
}

// maker makes numbers that follow one another without a rule that shows.
type maker uint64

// below returns a number from 0 to n - 1.
func (m *maker) below(n int) int {
	*m = *m*6364136223846793005 + 1442695040888963407
	return int(*m >> 33 % maker(n))
}

// upTo returns a number from -n to n.
func (m *maker) upTo(n int) int { return m.below(2*n+1) - n }

// span returns a span from low to high or within.
func (m *maker) span(low, high int) api.Span {
	n := low + m.below(high-low+1)
	return spanOf(n, n+m.below(high-n+1))
}

// road returns a road between two of some places, one of eight closed, one of six long.
func (m *maker) road(places, scale int) api.Road {
	from, rest := m.below(places), 9
	if m.below(6) == 0 {
		rest = 900
	}
	r := roadOf(from, (from+1+m.below(places-1))%places, m.span(1+m.below(rest), rest), m.span(-scale, scale))
	r.Closed = m.below(8) == 0
	return r
}

// fan returns a fan in a road.
func (m *maker) fan(road, scale int) api.Fan {
	f := api.Fan{Road: road, Back: m.below(2) == 1}
	flow, pressure := m.upTo(9), 5*scale
	for range 1 + m.below(8) {
		f.Curve = append(f.Curve, api.Point{Flow: flow, Pressure: pressure})
		flow, pressure = flow+1+m.below(9), max(pressure-m.below(scale), 0)
	}
	return f
}

// made returns an air with up to some places, of which some are cut off, a setting, and pressures with which to begin.
func (m *maker) made(most int) made {
	scale := 1 + m.below(300)
	var x made
	places, roads := 2+m.below(most-1), 1+m.below(2*most-2)
	for i := range places {
		x.a.Mine.Places = append(x.a.Mine.Places, api.Place{Surface: i == 0 || m.below(5) == 0})
	}
	for range roads {
		x.a.Mine.Roads = append(x.a.Mine.Roads, m.road(places, scale))
	}
	for range m.below(4) {
		x.a.Fans = append(x.a.Fans, m.fan(m.below(roads), scale))
		x.s.Fans = append(x.s.Fans, m.below(4)-1)
	}
	for range m.below(4) {
		rest := m.below(4)
		x.a.Doors = append(x.a.Doors, api.Door{Road: m.below(roads), Other: -1, Rests: []int{rest + 2 + m.below(7), rest + 1, rest}})
		x.s.Doors = append(x.s.Doors, m.below(4)-1)
	}
	x.start = make([]int, places)
	for _, place := range moving(x.a) {
		x.start[place] = m.upTo(2 * scale)
	}
	return x
}

// mades are some airs with settings and pressures.
func mades(n, most int) []made {
	m, l := maker(97531), make([]made, n)
	for i := range l {
		l[i] = m.made(most)
	}
	return l
}
