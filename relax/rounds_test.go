package relax_test

import (
	"testing"

	"minecontrol/api"
	"minecontrol/balance"
	"minecontrol/relax"
)

// wantRise checks what Rise answers.
func wantRise(t *testing.T, x made, want []int, code api.Errno) {
	t.Helper()
	if got, e := relax.Rise(x.a, x.s, x.start); e != code || !same(got, want) {
		t.Errorf("Rise from %v: %v and %d, want %v and %d", x.start, got, e, want, code)
	}
}

// wantFall checks what Fall answers.
func wantFall(t *testing.T, x made, want []int, code api.Errno) {
	t.Helper()
	if got, e := relax.Fall(x.a, x.s, x.start); e != code || !same(got, want) {
		t.Errorf("Fall from %v: %v and %d, want %v and %d", x.start, got, e, want, code)
	}
}

// P12.1: in mines with places of the surface alone, and in those without places, nothing moves.
func TestRoundsOfTheSurface(t *testing.T) {
	two := airOf(2, plain(0, 1, 1), roadOf(1, 0, exactly(1), exactly(500)))
	two.Mine.Places[1].Surface = true
	for _, x := range []made{{}, of(api.Air{}, []int{}...), of(airOf(1), 0), of(two, 0, 0)} {
		wantRise(t, x, x.start, api.OK)
		wantFall(t, x, x.start, api.OK)
	}
}

// P12.1: with one road a pressure rises to the first one at which surely no air comes, if it is not there or beyond, and falls to the first one at which surely none leaves.
func TestRoundsOfOneRoad(t *testing.T) {
	for _, x := range []struct {
		r         api.Road
		low, high int
	}{
		{plain(1, 0, 1), 0, 0},
		{plain(0, 1, 7), 0, 0},
		{roadOf(1, 0, exactly(1), exactly(-100)), 100, 100},
		{roadOf(1, 0, exactly(9), exactly(100)), -100, -100},
		{roadOf(0, 1, exactly(1), exactly(100)), 100, 100},
		{roadOf(0, 1, exactly(9), exactly(-100)), -100, -100},
		{roadOf(1, 0, spanOf(1, 5), spanOf(-120, -80)), 80, 120},
		{roadOf(0, 1, spanOf(1, 5), spanOf(-20, 30)), -20, 30},
		{roadOf(1, 0, exactly(1), spanOf(-1<<41, 1<<41)), -1 << 41, 1 << 41},
	} {
		for _, start := range []int{-most, -5000, -121, -120, -100, -99, -20, -1, 0, 1, 29, 30, 31, 80, 99, 100, 101, 120, 121, 5000, most} {
			y := of(airOf(2, x.r), 0, start)
			wantRise(t, y, []int{0, max(start, x.high)}, api.OK)
			wantFall(t, y, []int{0, min(start, x.low)}, api.OK)
		}
	}
}

// P12.1: with a fan: at 225 surely 15 leave, and at most 15 come (15 times 15 and 5 times 15 are 300); at 200 surely 15 come, and at most 15 leave.
func TestRoundsWithFan(t *testing.T) {
	for _, x := range []struct{ fan, low, high int }{
		{api.FanOn, 200, 225},
		{api.FanStopped, 0, 0},
		{api.FanReversed, -225, -200},
		{-1, -225, 225},
	} {
		for _, start := range []int{-1000, -226, -225, -201, -200, -199, 0, 199, 200, 201, 210, 225, 226, 1000} {
			y := made{blown(), api.Setting{Fans: []int{x.fan}}, []int{0, start}}
			wantRise(t, y, []int{0, max(start, x.high)}, api.OK)
			wantFall(t, y, []int{0, min(start, x.low)}, api.OK)
		}
	}
}

// P12.1: one place moves the other ones, also those ahead of it. Air flows from 2 to 1 if the pressure there is more than 100 greater, and from 1 to 0 if it is greater at all; the flow is the root of what is more.
func TestRoundsOfSeveralPlaces(t *testing.T) {
	a := airOf(3, plain(1, 0, 1), roadOf(2, 1, exactly(1), exactly(-100)))
	for _, x := range []struct{ start, rise, fall []int }{
		{[]int{0, 0, 0}, []int{0, 0, 100}, []int{0, -51, 0}}, // the root of 51, rounded down, comes from 0, and that of 49 leaves to 2: 7
		{[]int{0, 0, 100}, []int{0, 0, 100}, []int{0, 0, 100}},
		{[]int{0, 0, 101}, []int{0, 1, 101}, []int{0, 0, 100}},
		{[]int{0, 0, 104}, []int{0, 3, 104}, []int{0, 0, 100}}, // with 2 in the place 1 the root of 2, rounded up, comes, and rounded down it leaves
		{[]int{0, 7, 0}, []int{0, 7, 107}, []int{0, -51, 0}},
		{[]int{0, -7, 0}, []int{0, 0, 100}, []int{0, -51, 0}},
		{[]int{0, -60, 0}, []int{0, 0, 100}, []int{0, -60, 0}},
		{[]int{0, -2000, 1100}, []int{0, 516, 1100}, []int{0, -2000, -1900}}, // 22 times 22 is 484
		{[]int{0, 2000, -900}, []int{0, 2000, 2100}, []int{0, -516, -900}},
	} {
		wantRise(t, of(a, x.start...), x.rise, api.OK)
		wantFall(t, of(a, x.start...), x.fall, api.OK)
	}
}

// P12.1: pressures of places that are cut off stay 0, whatever lifts and fans are there; with an open road to the surface they move.
func TestRoundsOfPlacesCutOff(t *testing.T) {
	a := with(airOf(3, closed(plain(1, 0, 1)), roadOf(1, 2, exactly(1), exactly(500))), api.Fan{Road: 1, Curve: []api.Point{{Pressure: 300}}})
	x := made{a, api.Setting{Fans: []int{api.FanOn}}, make([]int, 3)}
	wantRise(t, x, []int{0, 0, 0}, api.OK)
	wantFall(t, x, []int{0, 0, 0}, api.OK)
	x.a.Mine.Roads[0].Closed = false
	wantRise(t, x, []int{0, 0, 800}, api.OK)
	x.start = []int{0, 0, 5}
	x.a.Mine.Roads[1].Lift = exactly(-400)
	wantFall(t, x, []int{0, 0, -100}, api.OK)
	wantRise(t, usual(), []int{0, 29, 0, 0, 0, 0, 0}, api.OK)
	wantFall(t, usual(), []int{0, -92, -107, 0, 0, 0, 0}, api.OK)
}

// P12.1: api.MaxRounds rounds are permitted if the last one changes nothing: behind a lift of 199, 199 rounds move both places by 1 each, and the next one nothing.
func TestNumberOfRounds(t *testing.T) {
	for _, lift := range []int{0, 1, 2, 150, 198, 199, 200, 201, 202, 300, 399, 400, 1000} {
		rise, fall, code := []int{0, lift, lift}, []int{0, -lift, -lift}, api.OK
		if lift > 199 {
			rise, fall, code = nil, nil, api.ErrLimit
		}
		wantRise(t, of(slow(1, 2, -lift), 0, 0, 0), rise, code)
		wantFall(t, of(slow(1, 2, lift), 0, 0, 0), fall, code)
		wantRise(t, of(slow(1, 2, lift), 0, 0, 0), []int{0, 0, 0}, api.OK)
		wantFall(t, of(slow(1, 2, -lift), 0, 0, 0), []int{0, 0, 0}, api.OK)
	}
	wantRise(t, of(slow(1, 2, -900), 0, 701, 701), []int{0, 900, 900}, api.OK)
	wantRise(t, of(slow(1, 2, -900), 0, 700, 700), nil, api.ErrLimit)
	wantRise(t, of(slow(1, 2, -900), 0, 702, 700), []int{0, 900, 900}, api.OK)
	wantRise(t, of(slow(1, 2, -900), 0, 701, 700), nil, api.ErrLimit)
	wantFall(t, of(slow(1, 2, 900), 0, -701, -701), []int{0, -900, -900}, api.OK)
	wantFall(t, of(slow(1, 2, 900), 0, -700, -700), nil, api.ErrLimit)
}

// P12.1: the places take their turns ascending: if the place 1 is the one that follows, it does so only a round later.
func TestOrderOfPlaces(t *testing.T) {
	wantRise(t, of(slow(2, 1, -198), 0, 0, 0), []int{0, 198, 198}, api.OK)
	wantRise(t, of(slow(2, 1, -199), 0, 0, 0), nil, api.ErrLimit)
	wantFall(t, of(slow(2, 1, 198), 0, 0, 0), []int{0, -198, -198}, api.OK)
	wantFall(t, of(slow(2, 1, 199), 0, 0, 0), nil, api.ErrLimit)
}

// P12.1: pressures go up to api.MaxPressure, and down to the same below 0; where they would have to go beyond, there is none.
func TestGreatestPressures(t *testing.T) {
	wantRise(t, of(chain(-1, -1), 0, most-1, 0), []int{0, most - 1, most}, api.OK)
	wantRise(t, of(chain(-1, -2), 0, most-1, 0), nil, api.ErrLimit)
	wantRise(t, of(chain(-1, 0), 0, most, 0), []int{0, most, most}, api.OK)
	wantRise(t, of(chain(-1, -1), 0, most, 0), nil, api.ErrLimit)
	wantFall(t, of(chain(1, 1), 0, 1-most, 0), []int{0, 1 - most, -most}, api.OK)
	wantFall(t, of(chain(1, 2), 0, 1-most, 0), nil, api.ErrLimit)
	wantFall(t, of(chain(1, 0), 0, -most, 0), []int{0, -most, -most}, api.OK)
	wantFall(t, of(chain(1, 1), 0, -most, 0), nil, api.ErrLimit)
}

// P12.1: what chapter 12 says, for many made airs; some end only behind the last round that is permitted.
func TestRoundsOfMadeAirs(t *testing.T) {
	limits, ends := 0, 0
	for _, x := range mades(90, 5) {
		rise, code := wanted(x, balance.Least)
		wantRise(t, x, rise, code)
		fall, other := wanted(x, balance.Greatest)
		wantFall(t, x, fall, other)
		for _, e := range []api.Errno{code, other} {
			if e == api.ErrLimit {
				limits++
			} else {
				ends++
			}
		}
	}
	if limits < 5 || ends < 100 {
		t.Errorf("%d limits, %d ends", limits, ends)
	}
}

// Consequence: where Rise and Fall end, the order of the places does not count.
func TestOtherOrders(t *testing.T) {
	for _, x := range mades(50, 5) {
		back := moving(x.a)
		for i := range len(back) / 2 {
			back[i], back[len(back)-1-i] = back[len(back)-1-i], back[i]
		}
		if rise, _, ok := settled(x, back, balance.Least); ok {
			if got, code := relax.Rise(x.a, x.s, x.start); code == api.OK && !same(got, rise) {
				t.Errorf("from %v: %v, backwards %v", x.start, got, rise)
			}
		}
		if fall, _, ok := settled(x, back, balance.Greatest); ok {
			if got, code := relax.Fall(x.a, x.s, x.start); code == api.OK && !same(got, fall) {
				t.Errorf("from %v: %v, backwards %v", x.start, got, fall)
			}
		}
	}
}

// balanced reports whether surely no less air leaves any of both places below ground than comes.
func balanced(x made, pressures []int) bool {
	return balance.Net(x.a, x.s, pressures, 1).Low >= 0 && balance.Net(x.a, x.s, pressures, 2).Low >= 0
}

// Consequence: all pressures that are nowhere less than start, and at which surely no less leaves each place than comes, are nowhere less than what Rise returns; it is one of them.
func TestLeastPressures(t *testing.T) {
	m := maker(86420)
	for range 60 {
		x := made{a: airOf(3, m.road(3, 9), plain(1, 0, 2), m.road(3, 9), plain(2, 0, 3), m.road(3, 9))}
		x.start = []int{0, m.upTo(9), m.upTo(9)}
		rise, code := relax.Rise(x.a, x.s, x.start)
		if code != api.OK || !balanced(x, rise) || rise[1] < x.start[1] || rise[2] < x.start[2] {
			t.Fatalf("from %v: %v and %d", x.start, rise, code)
		}
		for first := x.start[1]; first <= rise[1]+2; first++ {
			for second := x.start[2]; second <= rise[2]+2; second++ {
				if (first < rise[1] || second < rise[2]) && balanced(x, []int{0, first, second}) {
					t.Errorf("from %v: %v, but also %d, %d", x.start, rise, first, second)
				}
			}
		}
	}
}
