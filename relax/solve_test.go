package relax_test

import (
	"testing"

	"minecontrol/api"
	"minecontrol/branch"
	"minecontrol/certify"
	"minecontrol/relax"
)

// wantSolve checks what Solve answers.
func wantSolve(t *testing.T, name string, a api.Air, s api.Setting, want api.Bounds, code api.Errno) {
	t.Helper()
	if got, e := relax.Solve(a, s); e != code || !same(got.Low, want.Low) || !same(got.High, want.High) {
		t.Errorf("%s: %v and %d, want %v and %d", name, got, e, want, code)
	}
}

// boundsOf returns bounds.
func boundsOf(low, high []int) api.Bounds { return api.Bounds{Low: low, High: high} }

// P12.2: in a mine with places of the surface alone, all is 0.
func TestSolveOfTheSurface(t *testing.T) {
	wantSolve(t, "no places", api.Air{}, api.Setting{}, api.Bounds{}, api.OK)
	wantSolve(t, "one place", airOf(1), api.Setting{}, boundsOf([]int{0}, []int{0}), api.OK)
	a := airOf(3, plain(0, 1, 1), roadOf(1, 2, exactly(1), exactly(500)))
	a.Mine.Places[1].Surface, a.Mine.Places[2].Surface = true, true
	a = with(a, api.Fan{Road: 0, Curve: []api.Point{{Pressure: 300}}})
	wantSolve(t, "three places", a, api.Setting{Fans: []int{-1}}, boundsOf([]int{0, 0, 0}, []int{0, 0, 0}), api.OK)
}

// P12.2: High is where Rise ends, and Low where Fall ends from there: it need not be 0 or less, and High need not be 0 or more.
func TestSolve(t *testing.T) {
	for _, x := range []struct{ fan, low, high int }{
		{api.FanOn, 200, 225},
		{api.FanStopped, 0, 0},
		{api.FanReversed, -225, -200},
		{-1, -225, 225},
	} {
		wantSolve(t, "blown", blown(), api.Setting{Fans: []int{x.fan}}, boundsOf([]int{0, x.low}, []int{0, x.high}), api.OK)
	}
	wantSolve(t, "a lift", chain(-100), api.Setting{}, boundsOf([]int{0, 100}, []int{0, 100}), api.OK)
	wantSolve(t, "lifts", chain(-100, 250, -3), api.Setting{}, boundsOf([]int{0, 100, -150, -147}, []int{0, 100, -150, -147}), api.OK)
	apart := airOf(3, roadOf(1, 0, exactly(1), spanOf(-100, -30)), closed(plain(1, 2, 1)))
	wantSolve(t, "a place cut off", apart, api.Setting{}, boundsOf([]int{0, 30, 0}, []int{0, 100, 0}), api.OK)
}

// P12.2: Rise begins where Fall has ended: from 0 on it would end higher.
func TestSolveFallsFirst(t *testing.T) {
	x := usual()
	wantRise(t, x, []int{0, 29, 0, 0, 0, 0, 0}, api.OK)
	wantSolve(t, "usual", x.a, x.s, boundsOf([]int{0, -92, -107, 0, 0, 0, 0}, []int{0, 16, -20, 0, 0, 0, 0}), api.OK)
}

// P12.2: what chapter 12 says, for many made airs. Consequence: the checker accepts what Solve finds, and Low is nowhere greater than High.
func TestSolveOfMadeAirs(t *testing.T) {
	limits := 0
	for _, x := range mades(80, 5) {
		want, code := solved(x.a, x.s)
		wantSolve(t, "made", x.a, x.s, want, code)
		if code != api.OK {
			limits++
			continue
		}
		if e := certify.Check(x.a, x.s, want); e != api.OK {
			t.Errorf("%v: %d", want, e)
		}
		for place, low := range want.Low {
			if low > want.High[place] {
				t.Errorf("%v: place %d", want, place)
			}
		}
	}
	if limits < 2 || limits > 40 {
		t.Errorf("%d limits", limits)
	}
}

// T1: each state that fits lies within what Solve finds; here all small states of a ring of three roads with a fan and a door are tried.
func TestSolveHoldsStates(t *testing.T) {
	a := with(airOf(3, roadOf(0, 1, spanOf(1, 2), exactly(0)), roadOf(1, 2, spanOf(2, 3), spanOf(-3, 1)), roadOf(2, 0, exactly(1), exactly(4))),
		api.Fan{Road: 0, Curve: []api.Point{{Flow: 0, Pressure: 8}, {Flow: 2, Pressure: 5}}})
	a.Doors = []api.Door{{Road: 2, Other: -1, Rests: []int{3, 0}}}
	found := 0
	for _, s := range []api.Setting{{Fans: []int{api.FanOn}, Doors: []int{-1}}, {Fans: []int{-1}, Doors: []int{1}}, {Fans: []int{api.FanReversed}, Doors: []int{0}}} {
		b, code := relax.Solve(a, s)
		if code != api.OK {
			t.Fatal(code)
		}
		for first := -25; first <= 25; first++ {
			for second := -25; second <= 25; second++ {
				for flow := -3; flow <= 3; flow++ {
					l := []int{0, first, second}
					if branch.Fits(a, s, api.State{Pressures: l, Flows: []int{flow, flow, flow}}) != api.OK {
						continue
					}
					found++
					if first < b.Low[1] || first > b.High[1] || second < b.Low[2] || second > b.High[2] {
						t.Errorf("%v: %v with the flow %d", b, l, flow)
					}
				}
			}
		}
	}
	if found < 20 {
		t.Errorf("%d states", found)
	}
}

// P12.2: the rounds of each of the three are counted alone: Fall makes 101, and Rise 200 to go from -100 to 99, and as many the other Fall.
func TestSolveCountsRounds(t *testing.T) {
	a := slow(1, 2, 0)
	a.Mine.Roads[0].Lift = spanOf(-99, 100)
	wantSolve(t, "all to their limits", a, api.Setting{}, boundsOf([]int{0, -100, -100}, []int{0, 99, 99}), api.OK)
}

// P12.2: api.ErrLimit of the first Fall, of Rise, and of the second Fall, each where the ones ahead of it end.
func TestSolveLimits(t *testing.T) {
	wantSolve(t, "Fall", slow(1, 2, 199), api.Setting{}, boundsOf([]int{0, -199, -199}, []int{0, -199, -199}), api.OK)
	wantSolve(t, "Fall", slow(1, 2, 200), api.Setting{}, api.Bounds{}, api.ErrLimit)
	wantSolve(t, "Rise", slow(1, 2, -199), api.Setting{}, boundsOf([]int{0, 199, 199}, []int{0, 199, 199}), api.OK)
	wantSolve(t, "Rise", slow(1, 2, -200), api.Setting{}, api.Bounds{}, api.ErrLimit)
	a := slow(1, 2, 0)
	a.Mine.Roads[0].Lift = spanOf(-100, 100)
	wantSolve(t, "Rise", a, api.Setting{}, api.Bounds{}, api.ErrLimit)
	wantSolve(t, "second Fall", fastUp(199), api.Setting{Fans: []int{api.FanOn}}, boundsOf([]int{0, 0, 0}, []int{0, 199, 199}), api.OK)
	wantSolve(t, "second Fall", fastUp(200), api.Setting{Fans: []int{api.FanOn}}, api.Bounds{}, api.ErrLimit)
	x := made{fastUp(200), api.Setting{Fans: []int{api.FanOn}}, []int{0, 0, 0}}
	wantFall(t, x, []int{0, 0, 0}, api.OK)
	wantRise(t, x, []int{0, 200, 200}, api.OK)
	x.start = []int{0, 200, 200}
	wantFall(t, x, nil, api.ErrLimit)
}

// fastUp returns an air whose pressures rise fast, and fall by 1 a round: its fan gives way to air that comes, and lets only 1 leave.
func fastUp(high int) api.Air {
	a := airOf(3, roadOf(1, 0, exactly(1), spanOf(-2000-high, -2000)), plain(2, 1, 1))
	return with(a, api.Fan{Road: 0, Curve: []api.Point{{Flow: 0, Pressure: 2000}, {Flow: 1, Pressure: 0}}})
}

// P12.2: the errors of what Solve begins with: those of the air and of the setting.
func TestSolveErrors(t *testing.T) {
	wantSolve(t, "usual", usual().a, usual().s, boundsOf([]int{0, -92, -107, 0, 0, 0, 0}, []int{0, 16, -20, 0, 0, 0, 0}), api.OK)
	for _, f := range append(airFaults(), settingFaults()...) {
		x := usual()
		f.make(&x)
		wantSolve(t, f.name, x.a, x.s, api.Bounds{}, f.code)
	}
	for _, f := range airFaults() {
		for _, second := range settingFaults() {
			x := usual()
			second.make(&x)
			f.make(&x)
			wantSolve(t, f.name+"; "+second.name, x.a, x.s, api.Bounds{}, f.code)
		}
	}
	wantSolve(t, "a state without a fan", airOf(1), api.Setting{Fans: []int{0}}, api.Bounds{}, api.ErrSetting)
}
