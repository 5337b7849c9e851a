package balance_test

import (
	"testing"

	"minecontrol/api"
	"minecontrol/balance"
)

// wantLeast checks what Least answers.
func wantLeast(t *testing.T, a api.Air, s api.Setting, pressures []int, place, want int, ok bool) {
	t.Helper()
	if got, found := balance.Least(a, s, pressures, place); got != want || found != ok {
		t.Errorf("least: %+v, pressures %v, place %d: %d, %t, want %d, %t", s, pressures, place, got, found, want, ok)
	}
}

// wantGreatest checks what Greatest answers.
func wantGreatest(t *testing.T, a api.Air, s api.Setting, pressures []int, place, want int, ok bool) {
	t.Helper()
	if got, found := balance.Greatest(a, s, pressures, place); got != want || found != ok {
		t.Errorf("greatest: %+v, pressures %v, place %d: %d, %t, want %d, %t", s, pressures, place, got, found, want, ok)
	}
}

// blown returns an air in which a fan blows into the place 1, and a road leads back.
func blown() api.Air {
	a := airOf(2, plain(0, 1, 1), plain(1, 0, 1))
	a.Fans = []api.Fan{{Road: 0, Curve: []api.Point{{Flow: 0, Pressure: 500}, {Flow: 20, Pressure: 400}}}}
	return a
}

// P10.2: the nearest pressure, from the own one on: at 225 surely 15 leave, and at most 15 come (15 times 15 and 5 times 15 are 300); at 200 surely 15 come, and at most 15 leave.
func TestNearestPressure(t *testing.T) {
	a, s := blown(), api.Setting{Fans: []int{api.FanOn}}
	for _, x := range []struct{ own, least, greatest int }{
		{-1 << 46, 225, -1 << 46},
		{-5000, 225, -5000},
		{0, 225, 0},
		{199, 225, 199},
		{200, 225, 200},
		{201, 225, 200},
		{210, 225, 200},
		{224, 225, 200},
		{225, 225, 200},
		{226, 226, 200},
		{5000, 5000, 200},
		{1 << 46, 1 << 46, 200},
	} {
		wantLeast(t, a, s, []int{0, x.own}, 1, x.least, true)
		wantGreatest(t, a, s, []int{0, x.own}, 1, x.greatest, true)
	}
	for _, x := range []struct{ at, fan, least, greatest int }{
		{0, api.FanOn, 225, 200},
		{1000, api.FanOn, 1225, 1200},
		{0, api.FanStopped, 0, 0},
		{0, api.FanReversed, -200, -225},
		{0, -1, 225, -225},
		{1000, -1, 1225, 775},
	} {
		s := api.Setting{Fans: []int{x.fan}}
		wantLeast(t, a, s, []int{x.at, -10000}, 1, x.least, true)
		wantGreatest(t, a, s, []int{x.at, 10000}, 1, x.greatest, true)
	}
}

// P10.2: the pressure of the place is searched, those of the others stay as they are; a place of the surface is like any other one.
func TestNearestPressureAmongOthers(t *testing.T) {
	a := airOf(4, plain(1, 0, 1), plain(2, 1, 1), plain(3, 1, 1))
	// With 100 at 2 and -100 at 3, at 0 at most 10 come from 2, and surely 10 leave to 3.
	wantLeast(t, a, api.Setting{}, []int{0, -700, 100, -100}, 1, 0, true)
	wantGreatest(t, a, api.Setting{}, []int{0, 700, 100, -100}, 1, 0, true)
	// With 100 and 100 there, at 83 surely 9 leave, and at most 5 and 5 come; at 84 at most 4 and 4. At 76 at most 9 leave, and surely 4 and 4 come; at 75 surely 5 and 5.
	wantLeast(t, a, api.Setting{}, []int{0, 0, 100, 100}, 1, 84, true)
	wantGreatest(t, a, api.Setting{}, []int{0, 100, 100, 100}, 1, 75, true)
	// At the surface only the road 0 ends.
	wantLeast(t, a, api.Setting{}, []int{-5, 7, 100, 100}, 0, 7, true)
	wantGreatest(t, a, api.Setting{}, []int{50, 7, 100, 100}, 0, 7, true)
	closedRoad := airOf(3, plain(1, 0, 1), closed(plain(2, 1, 1)))
	wantLeast(t, closedRoad, api.Setting{}, []int{0, -700, 100}, 1, 0, true)
	wantGreatest(t, closedRoad, api.Setting{}, []int{0, 700, 100}, 1, 0, true)
	wantLeast(t, closedRoad, api.Setting{}, []int{0, -700, 100}, 2, 100, true)
}

// P10.2: the pressure of a place without open roads is its own one.
func TestNearestPressureWithoutRoads(t *testing.T) {
	for _, a := range []api.Air{
		airOf(3, plain(0, 1, 1)),
		airOf(3, plain(0, 1, 1), closed(plain(1, 2, 1)), closed(roadOf(2, 0, exactly(1), exactly(500)))),
	} {
		for _, own := range []int{-1 << 46, -1, 0, 7, 1 << 46} {
			wantLeast(t, a, api.Setting{}, []int{0, 5, own}, 2, own, true)
			wantGreatest(t, a, api.Setting{}, []int{0, 5, own}, 2, own, true)
		}
	}
	wantLeast(t, airOf(1), api.Setting{}, []int{-3}, 0, -3, true)
	wantGreatest(t, airOf(1), api.Setting{}, []int{-3}, 0, -3, true)
}

// P10.2: the last pressure that there is counts, and behind it there is none.
func TestNearestPressureAtLimits(t *testing.T) {
	const most = 1 << 46
	for _, own := range []int{-most, -1, 0, most - 1, most} {
		for _, x := range []struct {
			lift, least, greatest int
			up, down              bool
		}{
			{0, most, -most, true, true},
			{1, most - 1, 0, true, false},
			{-1, 0, 1 - most, false, true},
			{5, most - 5, 0, true, false},
			{-5, 0, 5 - most, false, true},
			{1 << 41, most - 1<<41, 0, true, false},
			{-1 << 41, 0, 1<<41 - most, false, true},
		} {
			a := airOf(2, roadOf(1, 0, exactly(1), exactly(x.lift)))
			if x.up {
				wantLeast(t, a, api.Setting{}, []int{most, own}, 1, max(own, x.least), true)
			} else {
				wantLeast(t, a, api.Setting{}, []int{most, own}, 1, 0, false)
			}
			if x.down {
				wantGreatest(t, a, api.Setting{}, []int{-most, -own}, 1, min(-own, x.greatest), true)
			} else {
				wantGreatest(t, a, api.Setting{}, []int{-most, -own}, 1, 0, false)
			}
		}
	}
}

// nets are the Nets of a place with its own pressure and those around it, in steps of 1 or -1.
func nets(x made, place, step, n int) []api.Span {
	var l []api.Span
	for i := range n {
		l = append(l, balance.Net(x.a, x.s, moved(x.pressures, place, x.pressures[place]+i*step), place))
	}
	return l
}

// P10.2: what a look at each pressure finds, where that is near.
func TestNearestPressureIsFound(t *testing.T) {
	found := 0
	for _, x := range madeAirs(400) {
		if x.scale > 3 {
			continue
		}
		const near = 300
		for place, own := range x.pressures {
			for i, net := range nets(x, place, 1, near) {
				if net.Low >= 0 {
					wantLeast(t, x.a, x.s, x.pressures, place, own+i, true)
					found++
					break
				}
			}
			for i, net := range nets(x, place, -1, near) {
				if net.High <= 0 {
					wantGreatest(t, x.a, x.s, x.pressures, place, own-i, true)
					found++
					break
				}
			}
		}
	}
	if found < 500 {
		t.Errorf("only %d are near", found)
	}
}

// P10.2: enough leaves at what Least answers, and not at 1 less, if that is not less than the own pressure; Greatest likewise.
func TestNearestPressureIsTheFirst(t *testing.T) {
	l := append(madeAirs(400), made{usual(), usualSetting(), []int{0, 20, -30, 0, 9}, 1}, made{largest(), unknown(largest()), make([]int, 64), 1})
	for _, x := range l {
		for place, own := range x.pressures {
			net := func(pressure int) api.Span {
				return balance.Net(x.a, x.s, moved(x.pressures, place, pressure), place)
			}
			p, ok := balance.Least(x.a, x.s, x.pressures, place)
			if ok && (p < own || p > 1<<46 || net(p).Low < 0 || p > own && net(p-1).Low >= 0) || !ok && (p != 0 || net(1<<46).Low >= 0) {
				t.Fatalf("%+v, place %d: least %d, %t", x, place, p, ok)
			}
			p, ok = balance.Greatest(x.a, x.s, x.pressures, place)
			if ok && (p > own || p < -1<<46 || net(p).High > 0 || p < own && net(p+1).High <= 0) || !ok && (p != 0 || net(-1<<46).High <= 0) {
				t.Fatalf("%+v, place %d: greatest %d, %t", x, place, p, ok)
			}
		}
	}
}
