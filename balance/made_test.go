package balance_test

import "minecontrol/api"

// spanOf returns a span.
func spanOf(low, high int) api.Span { return api.Span{Low: low, High: high} }

// exactly returns the span of one number.
func exactly(n int) api.Span { return spanOf(n, n) }

// roadOf returns an open road.
func roadOf(from, to int, rest, lift api.Span) api.Road {
	return api.Road{From: from, To: to, Length: 100, Area: 9, Rest: rest, Lift: lift}
}

// plain returns an open road with one resistance and no lift.
func plain(from, to, rest int) api.Road {
	return roadOf(from, to, exactly(rest), exactly(0))
}

// closed returns a road closed.
func closed(r api.Road) api.Road {
	r.Closed = true
	return r
}

// airOf returns an air with some places, of which only the first one is of the surface, and with roads.
func airOf(places int, roads ...api.Road) api.Air {
	a := api.Air{Mine: api.Mine{Places: make([]api.Place, places), Roads: roads}}
	a.Mine.Places[0].Surface = true
	return a
}

// with returns an air changed.
func with(a api.Air, change func(a *api.Air)) api.Air {
	change(&a)
	return a
}

// usual returns an air with places and roads of all kinds, two fans and four doors.
func usual() api.Air {
	return api.Air{
		Mine: api.Mine{
			Places: []api.Place{{Surface: true}, {Height: -100}, {Height: -200}, {Height: 5, Surface: true}, {}},
			Roads: []api.Road{
				roadOf(0, 1, spanOf(1, 2), exactly(0)),
				roadOf(1, 2, spanOf(3, 5), spanOf(-20, 30)),
				roadOf(2, 3, spanOf(1, 4), exactly(7)),
				closed(roadOf(3, 1, exactly(9), exactly(5))),
				plain(2, 1, 1),
				plain(3, 0, 2),
			},
		},
		Fans: []api.Fan{
			{Road: 2, Curve: []api.Point{{Flow: 0, Pressure: 100}, {Flow: 3, Pressure: 90}}},
			{Road: 0, Back: true, Curve: []api.Point{{Flow: -2, Pressure: 60}, {Flow: 2, Pressure: 20}}},
		},
		Doors: []api.Door{
			{Road: 1, Other: 2, Rests: []int{50, 10}},
			{Road: 3, Other: -1, Rests: []int{900, 70, 1}},
			{Road: 4, Other: 0, Rests: []int{8, 0}},
			{Road: 1, Other: -1, Rests: []int{6, 5}},
		},
	}
}

// usualSetting returns a setting of the usual air.
func usualSetting() api.Setting {
	return api.Setting{Fans: []int{api.FanOn, -1}, Doors: []int{1, 2, 0, -1}}
}

// largest returns an air with as many things as there can be, and numbers at their limits; the place 1 has two roads and all fans and doors.
func largest() api.Air {
	var a api.Air
	for i := range api.MaxPlaces {
		a.Mine.Places = append(a.Mine.Places, api.Place{Height: -api.MaxHeight, Surface: i == 0})
	}
	for i := range api.MaxRoads {
		a.Mine.Roads = append(a.Mine.Roads, roadOf(i%64, (i+1)%64, spanOf(1, 1<<18), spanOf(-1<<41, 1<<41)))
	}
	for i := range api.MaxFans {
		var curve []api.Point
		for j := range api.MaxPoints {
			curve = append(curve, api.Point{Flow: -1<<20 + j*1<<18, Pressure: 1<<41 - j*1<<38})
		}
		a.Fans = append(a.Fans, api.Fan{Road: i % 2, Back: i%4 > 1, Curve: curve})
	}
	for i := range api.MaxDoors {
		a.Doors = append(a.Doors, api.Door{Road: 1, Other: i ^ 1, Rests: []int{1 << 18, 1 << 17, 1 << 16, 2, 1, 0}})
	}
	return a
}

// unknown returns the setting of an air in which nothing is known.
func unknown(a api.Air) api.Setting {
	s := api.Setting{Fans: make([]int, len(a.Fans)), Doors: make([]int, len(a.Doors))}
	for _, l := range [][]int{s.Fans, s.Doors} {
		for i := range l {
			l[i] = -1
		}
	}
	return s
}

// maker makes numbers that follow one another without a rule that shows.
type maker uint64

// below returns a number from 0 to n - 1.
func (m *maker) below(n int) int {
	*m = *m*6364136223846793005 + 1442695040888963407
	return int(*m >> 33 % maker(n))
}

// upTo returns a number from -n to n.
func (m *maker) upTo(n int) int { return m.below(2*n+1) - n }

// span returns a span from low to high or within.
func (m *maker) span(low, high int) api.Span {
	n := low + m.below(high-low+1)
	return spanOf(n, n+m.below(high-n+1))
}

// made is an air with a setting, pressures, and how great its flows of interest are.
type made struct {
	a         api.Air
	s         api.Setting
	pressures []int
	scale     int
}

// road returns a road between two of some places, one of eight closed.
func (m *maker) road(places, scale int) api.Road {
	from := m.below(places)
	r := roadOf(from, (from+1+m.below(places-1))%places, m.span(1, 1+m.below(9)), m.span(-scale*scale, scale*scale))
	r.Closed = m.below(8) == 0
	return r
}

// fan returns a fan in a road.
func (m *maker) fan(road, scale int) api.Fan {
	f := api.Fan{Road: road, Back: m.below(2) == 1}
	flow, pressure := m.upTo(scale), 5*scale*scale
	for range 1 + m.below(8) {
		f.Curve = append(f.Curve, api.Point{Flow: flow, Pressure: pressure})
		flow, pressure = flow+1+m.below(scale), max(pressure-m.below(scale*scale), 0)
	}
	return f
}

// air returns an air with a setting and pressures.
func (m *maker) air() made {
	scale := 1 + m.below(4)<<m.below(12)
	x := made{scale: scale}
	places, roads := 2+m.below(5), 1+m.below(12)
	for i := range places {
		x.a.Mine.Places = append(x.a.Mine.Places, api.Place{Surface: i == 0 || m.below(4) == 0})
		x.pressures = append(x.pressures, m.upTo(3*scale*scale))
	}
	for range roads {
		x.a.Mine.Roads = append(x.a.Mine.Roads, m.road(places, scale))
	}
	for range m.below(4) {
		x.a.Fans = append(x.a.Fans, m.fan(m.below(roads), scale))
		x.s.Fans = append(x.s.Fans, m.below(4)-1)
	}
	for i := range m.below(6) {
		rest := m.below(4)
		d := api.Door{Road: m.below(roads), Other: -1, Rests: []int{rest + 2 + m.below(7), rest + 1, rest}}
		if i%2 == 1 && m.below(2) == 0 {
			d.Other, x.a.Doors[i-1].Other = i-1, i
		}
		x.a.Doors = append(x.a.Doors, d)
		x.s.Doors = append(x.s.Doors, m.below(4)-1)
	}
	return x
}

// madeAirs are airs with settings and pressures.
func madeAirs(n int) []made {
	var l []made
	m := maker(2468)
	for range n {
		l = append(l, m.air())
	}
	return l
}

// moved returns pressures with one of them changed.
func moved(pressures []int, place, pressure int) []int {
	l := append([]int{}, pressures...)
	l[place] = pressure
	return l
}
