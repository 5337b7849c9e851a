package certify_test

import (
	"testing"

	"minecontrol/api"
	"minecontrol/balance"
	"minecontrol/branch"
	"minecontrol/certify"
)

const most = 1 << 46 // the greatest pressure

// wantCode checks what Check answers, and that only accepted bounds have flows.
func wantCode(t *testing.T, name string, x proof, want api.Errno) {
	t.Helper()
	if code := certify.Check(x.a, x.s, x.b); code != want {
		t.Errorf("%s: %+v: %d, want %d", name, x.b, code, want)
	}
	flows := certify.Flows(x.a, x.s, x.b)
	if want != api.OK && len(flows) != 0 || want == api.OK && len(flows) != len(x.a.Mine.Roads) {
		t.Errorf("%s: %+v: the flows %v", name, x.b, flows)
	}
}

// wantProof checks that bounds are accepted, or prove nothing.
func wantProof(t *testing.T, x proof, accepted bool) {
	t.Helper()
	if accepted {
		wantCode(t, "accepted", x, api.OK)
	} else {
		wantCode(t, "refused", x, api.ErrProof)
	}
}

// P11.1: in mines with places of the surface alone, and in those without places, there is nothing to prove.
func TestCheckOfTheSurface(t *testing.T) {
	wantCode(t, "no places", proof{}, api.OK)
	wantCode(t, "no places", proof{b: boundsOf([]int{}, []int{})}, api.OK)
	wantCode(t, "one place", proof{a: airOf(1), b: boundsOf([]int{0}, []int{0})}, api.OK)
	a := airOf(2, plain(0, 1, 1), roadOf(1, 0, exactly(1), exactly(500)))
	a.Mine.Places[1].Surface = true
	wantCode(t, "two places", proof{a: a, b: boundsOf([]int{0, 0}, []int{0, 0})}, api.OK)
	wantCode(t, "two places", proof{a: a, b: boundsOf([]int{0, 0}, []int{0, 1})}, api.ErrProof)
}

// P11.1: High proves what surely leaves, Low what surely comes: with one road the bounds must be where no air flows, or beyond.
func TestCheckOfOneRoad(t *testing.T) {
	for _, x := range []struct {
		r         api.Road
		low, high int // the greatest Low and the least High that are accepted
	}{
		{plain(1, 0, 1), 0, 0},
		{plain(0, 1, 7), 0, 0},
		{roadOf(1, 0, exactly(1), exactly(-100)), 100, 100},
		{roadOf(1, 0, exactly(9), exactly(100)), -100, -100},
		{roadOf(0, 1, exactly(1), exactly(100)), 100, 100},
		{roadOf(0, 1, exactly(9), exactly(-100)), -100, -100},
		{roadOf(1, 0, spanOf(1, 5), spanOf(-120, -80)), 80, 120},
		{roadOf(0, 1, spanOf(1, 5), spanOf(-20, 30)), -20, 30},
		{roadOf(1, 0, exactly(1), spanOf(-1<<41, 1<<41)), -1 << 41, 1 << 41},
	} {
		for _, less := range []int{most + x.low, 1000, 1, 0, -1, -2, -1000} {
			for _, more := range []int{most - x.high, 1000, 1, 0, -1, -2, -1000} {
				b := boundsOf([]int{0, x.low - less}, []int{0, x.high + more})
				wantProof(t, proof{a: airOf(2, x.r), b: b}, less >= 0 && more >= 0)
			}
		}
	}
}

// P11.1: with a fan: at 225 surely 15 leave, and at most 15 come (15 times 15 and 5 times 15 are 300); at 200 surely 15 come, and at most 15 leave.
func TestCheckWithFan(t *testing.T) {
	for _, x := range []struct{ fan, low, high int }{
		{api.FanOn, 200, 225},
		{api.FanStopped, 0, 0},
		{api.FanReversed, -225, -200},
		{-1, -225, 225},
	} {
		for low := x.low - 8; low <= x.low+8; low++ {
			for high := x.high - 8; high <= x.high+8; high++ {
				b := boundsOf([]int{0, low}, []int{0, high})
				wantProof(t, proof{blown(), api.Setting{Fans: []int{x.fan}}, b}, low <= x.low && high >= x.high)
			}
		}
	}
}

// P11.1: all pressures High prove together, and all pressures Low. Air flows from 2 to 1 if the pressure there is more than 100 greater, and from 1 to 0 if it is greater at all; the flow is the root of what is more.
func TestCheckOfSeveralPlaces(t *testing.T) {
	a := airOf(3, plain(1, 0, 1), roadOf(2, 1, exactly(1), exactly(-100)))
	for _, x := range []struct {
		first, second int
		low, high     bool
	}{
		{0, 100, true, true},
		{0, 99, false, false},
		{0, 101, false, false}, // as High: at most 1 comes to 1, and surely 0 leave it; as Low: at most 1 leaves 2
		{1, 101, false, true},
		{1, 102, false, true},
		{1, 103, false, false}, // as High: at most 2 come to 1, and surely 1 leaves it
		{9, 118, false, true},
		{9, 119, false, false},
		{50, 150, false, true},
		{-1, 99, true, false},
		{-1, 98, true, false},
		{-1, 97, false, false}, // as Low: surely 1 comes to 1 from 0, and at most 2 leave it to 2
		{-9, 82, true, false},
		{-9, 81, false, false},
		{-9, 92, false, false},
		{-50, 50, true, false},
	} {
		pressures := []int{0, x.first, x.second}
		wantProof(t, proof{a: a, b: boundsOf(pressures, []int{0, 1000, 1100})}, x.low)
		wantProof(t, proof{a: a, b: boundsOf([]int{0, -1000, -900}, pressures)}, x.high)
		wantProof(t, proof{a: a, b: boundsOf(pressures, pressures)}, x.low && x.high)
	}
}

// P11.1: the pressures of the surface and of places that are cut off are 0, Low and High of each.
func TestCheckOfPressuresThatAreGiven(t *testing.T) {
	wantCode(t, "usual", usual(), api.OK)
	for _, place := range []int{0, 3, 4, 5, 6} {
		for _, pressure := range []int{-most, -7, -1, 1, 7, most} {
			x := usual()
			x.b.Low = changed(x.b.Low, place, pressure)
			wantCode(t, "low", x, api.ErrProof)
			x.b.High = changed(x.b.High, place, pressure)
			wantCode(t, "both", x, api.ErrProof)
			x.b.Low = usual().b.Low
			wantCode(t, "high", x, api.ErrProof)
		}
	}
}

// P11.1: roads, fans and lifts between places that are cut off do not count; what is open does, so that a place is cut off only while its roads are closed.
func TestCheckOfPlacesCutOff(t *testing.T) {
	x := proof{a: airOf(3, closed(plain(0, 1, 1)), roadOf(1, 2, exactly(1), exactly(500)))}
	x.a.Fans = []api.Fan{{Road: 1, Curve: []api.Point{{Pressure: 300}}}}
	x.s.Fans = []int{api.FanOn}
	still := boundsOf([]int{0, 0, 0}, []int{0, 0, 0})
	x.b = still
	wantCode(t, "cut off", x, api.OK)
	for place := 1; place <= 2; place++ {
		x.b = boundsOf(still.Low, changed(still.High, place, 1))
		wantCode(t, "cut off", x, api.ErrProof)
		x.b = boundsOf(changed(still.Low, place, -1), still.High)
		wantCode(t, "cut off", x, api.ErrProof)
	}
	x.b = boundsOf([]int{0, 0, 800}, []int{0, 0, 800})
	wantCode(t, "cut off", x, api.ErrProof)
	x.a.Mine.Roads[0].Closed = false
	wantCode(t, "connected", x, api.OK)
	x.b = still
	wantCode(t, "connected", x, api.ErrProof)
}

// wanted is what chapter 11 says of bounds with a right setting, and pressures that are in their range.
func wanted(x proof) api.Errno {
	for place, apart := range lost(x.a) {
		if x.a.Mine.Places[place].Surface || apart {
			if x.b.Low[place] != 0 || x.b.High[place] != 0 {
				return api.ErrProof
			}
			continue
		}
		if balance.Net(x.a, x.s, x.b.High, place).Low < 0 || balance.Net(x.a, x.s, x.b.Low, place).High > 0 {
			return api.ErrProof
		}
	}
	return api.OK
}

// P11.1: bounds that searches have found are accepted; changed a little, they are what chapter 11 says.
func TestCheckOfMadeBounds(t *testing.T) {
	m := maker(8642)
	accepted, refused := 0, 0
	for _, x := range proofs(120) {
		wantCode(t, "found", x, api.OK)
		for place := range x.a.Mine.Places {
			for range 4 {
				y := x
				y.b.Low = changed(x.b.Low, place, x.b.Low[place]+m.upTo(3))
				y.b.High = changed(x.b.High, place, x.b.High[place]+m.upTo(3))
				code := wanted(y)
				wantCode(t, "changed", y, code)
				if code == api.OK {
					accepted++
				} else {
					refused++
				}
			}
		}
		swapped := x
		swapped.b = boundsOf(x.b.High, x.b.Low)
		wantCode(t, "swapped", swapped, wanted(swapped))
	}
	if accepted < 100 || refused < 100 {
		t.Errorf("%d accepted, %d refused", accepted, refused)
	}
}

// Chapter 11, consequences: each state that fits has its pressures within accepted bounds, and its flows within Flows.
func TestStatesAreWithin(t *testing.T) {
	a := airOf(3, roadOf(0, 1, spanOf(1, 2), exactly(0)), roadOf(1, 2, exactly(1), spanOf(-3, 5)), roadOf(2, 0, spanOf(1, 3), spanOf(0, 2)))
	a.Fans = []api.Fan{{Road: 0, Curve: []api.Point{{Flow: 0, Pressure: 20}, {Flow: 4, Pressure: 10}}}}
	for _, fan := range []int{-1, api.FanStopped, api.FanOn, api.FanReversed} {
		x := proof{a: a, s: api.Setting{Fans: []int{fan}}}
		x.b, _ = outermost(x.a, x.s)
		wantCode(t, "found", x, api.OK)
		flows, states := certify.Flows(x.a, x.s, x.b), 0
		eachState(25, 4, func(state api.State) {
			if branch.Fits(x.a, x.s, state) != api.OK {
				return
			}
			states++
			for place, p := range state.Pressures {
				if p < x.b.Low[place] || p > x.b.High[place] {
					t.Errorf("fan %d: %+v fits, and is not within %+v", fan, state, x.b)
				}
			}
			for road, f := range state.Flows {
				if f < flows[road].Low || f > flows[road].High {
					t.Errorf("fan %d: %+v fits, and is not within %v", fan, state, flows)
				}
			}
		})
		if states == 0 {
			t.Errorf("fan %d: no state fits", fan)
		}
	}
}

// eachState goes through states of three places with one flow around them.
func eachState(pressure, flow int, visit func(api.State)) {
	for first := -pressure; first <= pressure; first++ {
		for second := -pressure; second <= pressure; second++ {
			for f := -flow; f <= flow; f++ {
				visit(api.State{Pressures: []int{0, first, second}, Flows: []int{f, f, f}})
			}
		}
	}
}
