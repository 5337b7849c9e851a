package balance_test

import (
	"testing"

	"minecontrol/api"
	"minecontrol/balance"
	"minecontrol/branch"
)

// wantNet checks what Net answers.
func wantNet(t *testing.T, a api.Air, s api.Setting, pressures []int, place int, want api.Span) {
	t.Helper()
	if got := balance.Net(a, s, pressures, place); got != want {
		t.Errorf("%+v, pressures %v, place %d: %v, want %v", s, pressures, place, got, want)
	}
}

// P10.1: one road, which begins or ends at the place: what leaves counts, and what comes is taken off, rounded outwards.
func TestNetOfOneRoad(t *testing.T) {
	l := []struct {
		pressure    int
		here, there api.Span
	}{
		{200, exactly(10), exactly(-10)},
		{199, spanOf(9, 10), spanOf(-10, -9)},
		{1, spanOf(0, 1), spanOf(-1, 0)},
		{0, exactly(0), exactly(0)},
		{-1, spanOf(-1, 0), spanOf(0, 1)},
		{-199, spanOf(-10, -9), spanOf(9, 10)},
		{-200, exactly(-10), exactly(10)},
	}
	for _, x := range l {
		for _, r := range []api.Road{plain(1, 0, 2), plain(0, 1, 2)} {
			a := airOf(2, r)
			wantNet(t, a, api.Setting{}, []int{0, x.pressure}, 1, x.here)
			wantNet(t, a, api.Setting{}, []int{0, x.pressure}, 0, x.there)
			wantNet(t, a, api.Setting{}, []int{-x.pressure, 0}, 1, x.here)
			wantNet(t, a, api.Setting{}, []int{500, 500 + x.pressure}, 1, x.here)
		}
	}
}

// P10.1: the lift goes with the direction of the road, not with the place.
func TestNetWithLift(t *testing.T) {
	down, up := roadOf(0, 1, exactly(1), spanOf(100, 400)), roadOf(1, 0, exactly(1), spanOf(100, 400))
	for _, x := range []struct {
		r           api.Road
		here, there api.Span
	}{
		{down, spanOf(-20, -10), spanOf(10, 20)},
		{up, spanOf(10, 20), spanOf(-20, -10)},
	} {
		wantNet(t, airOf(2, x.r), api.Setting{}, []int{0, 0}, 1, x.here)
		wantNet(t, airOf(2, x.r), api.Setting{}, []int{0, 0}, 0, x.there)
	}
}

// P10.1: all open roads of the place are added up, the least ends and the greatest ones; others do not count.
func TestNetAddsUp(t *testing.T) {
	a := airOf(5,
		plain(1, 0, 1),                             // 10 leave
		plain(2, 1, 4),                             // 5 come
		roadOf(1, 3, spanOf(1, 4), exactly(0)),     // 5 to 10 leave
		roadOf(3, 1, exactly(1), spanOf(-100, 21)), // 8 to 15 leave: their squares are about 100 less 21 to 100 more 100
		plain(1, 2, 1),                             // 10 come
		closed(plain(1, 4, 1)),
		plain(0, 2, 1),
		plain(3, 4, 1),
	)
	pressures := []int{0, 100, 200, 0, -1000}
	wantNet(t, a, api.Setting{}, pressures, 1, spanOf(10-5+5+8-10, 10-5+10+15-10))
	l := []struct {
		road int
		want api.Span
	}{
		{0, spanOf(-2, 10)},
		{1, spanOf(13, 25)},
		{2, spanOf(3, 10)},
		{3, spanOf(0, 5)},
		{4, spanOf(18, 30)},
		{6, spanOf(8, 20)},
		{7, spanOf(8, 20)},
	}
	for _, x := range l {
		b := a
		b.Mine.Roads = append([]api.Road{}, a.Mine.Roads...)
		b.Mine.Roads[x.road].Closed = true
		wantNet(t, b, api.Setting{}, pressures, 1, x.want)
	}
	opened := a
	opened.Mine.Roads = append([]api.Road{}, a.Mine.Roads...)
	opened.Mine.Roads[5].Closed = false
	wantNet(t, opened, api.Setting{}, pressures, 1, spanOf(8+33, 20+34))
}

// P10.1: fans and doors of the roads count in their states, also where they are not known.
func TestNetWithFansAndDoors(t *testing.T) {
	// With the fan on and equal pressures the road 0 carries 20 from 0 to 1, as 20 times 20 is 500 less 5 times 20.
	a := airOf(3, plain(0, 1, 1), plain(2, 1, 1))
	a.Fans = []api.Fan{{Road: 0, Curve: []api.Point{{Flow: 0, Pressure: 500}, {Flow: 20, Pressure: 400}}}}
	a.Doors = []api.Door{{Road: 0, Other: 1, Rests: []int{9999, 0}}, {Road: 1, Other: 0, Rests: []int{99, 3}}}
	l := []struct {
		fan, first, second int
		want               api.Span
	}{
		{api.FanOn, 1, 1, exactly(-20 - 10)},
		{api.FanStopped, 1, 1, exactly(-10)},
		{api.FanReversed, 1, 1, exactly(20 - 10)},
		{-1, 1, 1, spanOf(-20-10, 20-10)},
		{api.FanOn, 1, 0, exactly(-20 - 2)},
		{api.FanOn, 1, -1, spanOf(-20-10, -20-2)},
		{api.FanStopped, 0, 0, exactly(-2)},
		{api.FanOn, 0, 0, spanOf(-1-2, -2)},
	}
	for _, x := range l {
		s := api.Setting{Fans: []int{x.fan}, Doors: []int{x.first, x.second}}
		wantNet(t, a, s, []int{0, 0, 400}, 1, x.want)
	}
}

// P10.1: a place without open roads has the Net 0 to 0, whatever the pressures are.
func TestNetWithoutRoads(t *testing.T) {
	for _, a := range []api.Air{
		airOf(3, plain(0, 1, 1)),
		airOf(3, plain(0, 1, 1), closed(plain(1, 2, 1)), closed(roadOf(2, 0, exactly(1), exactly(500)))),
	} {
		for _, pressure := range []int{-1 << 46, -1, 0, 7, 1 << 46} {
			wantNet(t, a, api.Setting{}, []int{0, 5, pressure}, 2, api.Span{})
		}
	}
	wantNet(t, airOf(1), api.Setting{}, []int{5}, 0, api.Span{})
}

// P10.1: pressures at their limits, and as much air as there can be.
func TestNetAtLimits(t *testing.T) {
	a := airOf(3, plain(1, 0, 1), plain(2, 1, 1))
	most := spanOf(1<<20, 1<<20+1)
	wantNet(t, a, api.Setting{}, []int{-1 << 46, 1 << 46, -1 << 46}, 1, spanOf(2<<20, 2<<20+2))
	wantNet(t, a, api.Setting{}, []int{1 << 46, -1 << 46, 1 << 46}, 1, spanOf(-2<<20-2, -2<<20))
	wantNet(t, a, api.Setting{}, []int{1 << 46, 1 << 46, -1 << 46}, 1, most)
	var l []api.Road
	for i := range api.MaxRoads {
		l = append(l, plain(i%2, 1-i%2, 1))
	}
	wantNet(t, airOf(2, l...), api.Setting{}, []int{-1 << 46, 1 << 46}, 1, spanOf(128<<20, 128<<20+128))
	wantNet(t, airOf(2, l...), api.Setting{}, []int{-1 << 46, 1 << 46}, 0, spanOf(-128<<20-128, -128<<20))
}

// netOf adds up the Net of a place as chapter 10 says it, by the Flow of each road in the whole air.
func netOf(x made, place int) api.Span {
	var sum api.Span
	for i, r := range x.a.Mine.Roads {
		if r.Closed {
			continue
		}
		flow := branch.Flow(x.a, x.s, i, x.pressures[r.From]-x.pressures[r.To])
		switch place {
		case r.From:
			sum = spanOf(sum.Low+flow.Low, sum.High+flow.High)
		case r.To:
			sum = spanOf(sum.Low-flow.High, sum.High-flow.Low)
		}
	}
	return sum
}

// P10.1: the sum of what chapter 9 says of each road, for each place of many made airs.
func TestNetIsTheSum(t *testing.T) {
	l := madeAirs(400)
	pressures := make([]int, api.MaxPlaces)
	for i := range pressures {
		pressures[i] = i * (i - 50) << 34
	}
	l = append(l, made{usual(), usualSetting(), []int{0, 20, -30, 0, 9}, 1}, made{largest(), unknown(largest()), pressures, 1})
	for _, x := range l {
		if !branch.Right(x.a, x.s) {
			t.Fatalf("%+v is not right", x)
		}
		for place := range x.pressures {
			wantNet(t, x.a, x.s, x.pressures, place, netOf(x, place))
		}
	}
}

// Chapter 10, consequences: with a greater pressure of the place neither end of Net falls; with a greater one of another place neither rises.
func TestNetRises(t *testing.T) {
	for _, x := range madeAirs(100) {
		for place := range x.pressures {
			before := balance.Net(x.a, x.s, x.pressures, place)
			for other, own := range x.pressures {
				for _, more := range []int{1, 2, x.scale, x.scale * x.scale, 1 << 45} {
					net := balance.Net(x.a, x.s, moved(x.pressures, other, own+more), place)
					falls, rises := net.Low < before.Low || net.High < before.High, net.Low > before.Low || net.High > before.High
					if other == place && falls || other != place && rises || net.Low > net.High {
						t.Fatalf("%+v, place %d, %d more at %d: %v, before it %v", x, place, more, other, net, before)
					}
				}
			}
		}
	}
}

// fitting returns a made air with a state that fits: each flow is carried in a circle, and the lift of each road is what is missing to its difference of pressure.
func (m *maker) fitting() (made, api.State) {
	x := m.air()
	flows := make([]int, len(x.a.Mine.Roads))
	net := make([]int, len(x.pressures))
	for i, r := range x.a.Mine.Roads {
		if !r.Closed {
			flows[i] = m.upTo(x.scale)
			net[r.From] += flows[i]
			net[r.To] -= flows[i]
		}
	}
	// A road more to each place brings from the surface what is missing there.
	for place := 1; place < len(net); place++ {
		x.a.Mine.Roads = append(x.a.Mine.Roads, plain(0, place, 1))
		flows = append(flows, net[place])
	}
	for place, p := range x.a.Mine.Places {
		if p.Surface {
			x.pressures[place] = 0
		}
	}
	for i := range x.a.Mine.Roads {
		r := &x.a.Mine.Roads[i]
		r.Lift = api.Span{}
		drop := branch.Drop(x.a, x.s, i, flows[i])
		lift := drop.Low + m.below(drop.High-drop.Low+1) - (x.pressures[r.From] - x.pressures[r.To])
		r.Lift = spanOf(lift-m.below(9), lift+m.below(9))
	}
	return x, api.State{Pressures: x.pressures, Flows: flows}
}

// Chapter 10, consequences: for a state that fits, the Net of each place below ground contains 0.
func TestNetOfStatesThatFit(t *testing.T) {
	m := maker(97)
	for range 300 {
		x, state := m.fitting()
		if code := branch.Fits(x.a, x.s, state); code != api.OK {
			t.Fatalf("%+v, %+v: %d", x, state, code)
		}
		for place, p := range x.a.Mine.Places {
			if net := balance.Net(x.a, x.s, state.Pressures, place); !p.Surface && (net.Low > 0 || net.High < 0) {
				t.Fatalf("%+v, place %d: %v", x, place, net)
			}
		}
	}
}
