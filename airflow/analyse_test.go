package airflow_test

import (
	"testing"

	"minecontrol/airflow"
	"minecontrol/api"
	"minecontrol/branch"
	"minecontrol/certify"
	"minecontrol/relax"
)

// P13.1: a fan that blows into a ring, in all its states.
func TestAnalyse(t *testing.T) {
	for _, x := range []struct {
		fan  int
		want api.Span
	}{
		// Both roads have the same flow: at the pressures 200 to 225 it is 14 to 15, and with the fan turned round as much the other way.
		{api.FanOn, spanOf(14, 15)},
		{api.FanStopped, exactly(0)},
		{api.FanReversed, spanOf(-15, -14)},
	} {
		wantAnalyse(t, "blown", blown(), fansOf(x.fan), flowsOf(x.want, x.want), api.OK)
	}
	// If it is not known which, the pressures are from -225 to 225, and at so much air the fan gives from -400 to 400: 25 times 25 is 625.
	wantAnalyse(t, "not known", blown(), fansOf(-1), flowsOf(spanOf(-25, 25), spanOf(-15, 15)), api.OK)
}

// P13.1: nothing flows along closed roads, nothing is known between places that are cut off, and the surface is calm.
func TestAnalyseOtherRoads(t *testing.T) {
	ring := spanOf(14, 15)
	want := flowsOf(ring, ring, exactly(20), api.Span{}, nothing(), api.Span{}, api.Span{})
	wantAnalyse(t, "beside", beside(blown()), fansOf(api.FanOn), want, api.OK)
	a := blown()
	a.Mine.Roads[1].Closed = true
	wantAnalyse(t, "a dead end", a, fansOf(api.FanOn), flowsOf(exactly(0), exactly(0)), api.OK)
	a.Mine.Roads[0].Closed = true
	wantAnalyse(t, "all closed", a, fansOf(-1), flowsOf(exactly(0), exactly(0)), api.OK)
}

// P13.1: there may be no roads, and no places.
func TestAnalyseOfLittle(t *testing.T) {
	wantAnalyse(t, "no places", api.Air{}, api.Setting{}, nil, api.OK)
	wantAnalyse(t, "one place", airOf(1), api.Setting{}, nil, api.OK)
	wantAnalyse(t, "places without roads", airOf(5), api.Setting{Fans: []int{}, Doors: []int{}}, nil, api.OK)
}

// P13.1: the usual air, with all kinds of roads, fans and doors: certify.Flows of the bounds that relax.Solve finds in it, -92 to 16 at the place 1 and -107 to -20 at the place 2.
func TestAnalyseUsual(t *testing.T) {
	a, s := usual()
	b := api.Bounds{Low: []int{0, -92, -107, 0, 0, 0, 0}, High: []int{0, 16, -20, 0, 0, 0, 0}}
	want := certify.Flows(a, s, b)
	if len(want) != 9 || want[0] == nothing() || want[6] != nothing() {
		t.Fatalf("%v", want)
	}
	wantAnalyse(t, "usual", a, s, want, api.OK)
}

// P13.1: if the rounds of relax.Solve come to their limit, nothing is known of open roads, wherever they are, and that is no error.
func TestAnalyseWithoutBounds(t *testing.T) {
	for _, x := range []struct {
		name string
		air  api.Air
		s    api.Setting
	}{
		{"the first Fall", slow(200), api.Setting{}},
		{"Rise", slow(-200), api.Setting{}},
		{"the second Fall", fastUp(200), fansOf(api.FanOn)},
	} {
		if b, code := relax.Solve(x.air, x.s); code != api.ErrLimit {
			t.Fatalf("%s: %v and %d", x.name, b, code)
		}
		wantAnalyse(t, x.name, x.air, x.s, flowsOf(nothing(), nothing()), api.OK)
		want := flowsOf(nothing(), nothing(), nothing(), api.Span{}, nothing(), api.Span{}, api.Span{})
		wantAnalyse(t, x.name+", beside", beside(x.air), x.s, want, api.OK)
	}
	wantAnalyse(t, "just so many rounds down", slow(199), api.Setting{}, flowsOf(exactly(0), exactly(0)), api.OK)
	wantAnalyse(t, "just so many rounds up", slow(-199), api.Setting{}, flowsOf(exactly(0), exactly(0)), api.OK)
	if flows, code := airflow.Analyse(fastUp(199), fansOf(api.FanOn)); code != api.OK || flows[0] == nothing() || flows[1] == nothing() {
		t.Errorf("just so many rounds of the second Fall: %v and %d", flows, code)
	}
}

// P13.1: what chapter 13 says, for many made airs.
func TestAnalyseOfMadeAirs(t *testing.T) {
	m, limits := maker(86420), 0
	for range 120 {
		a, s := m.air()
		var want []api.Span
		b, code := relax.Solve(a, s)
		if code == api.OK {
			want = certify.Flows(a, s, b)
		} else {
			limits++
			for _, r := range a.Mine.Roads {
				if r.Closed {
					want = append(want, exactly(0))
				} else {
					want = append(want, nothing())
				}
			}
		}
		if len(want) != len(a.Mine.Roads) {
			t.Fatalf("%v", want)
		}
		wantAnalyse(t, "made", a, s, want, api.OK)
	}
	if limits < 2 || limits > 60 {
		t.Errorf("%d limits", limits)
	}
}

// ring returns a ring of three roads with a fan and a door, and settings of it.
func ring() (api.Air, []api.Setting) {
	a := with(airOf(3, roadOf(0, 1, spanOf(1, 2), exactly(0)), roadOf(1, 2, spanOf(2, 3), spanOf(-3, 1)), roadOf(2, 0, exactly(1), exactly(4))),
		api.Fan{Road: 0, Curve: []api.Point{{Flow: 0, Pressure: 8}, {Flow: 2, Pressure: 5}}})
	a.Doors = []api.Door{{Road: 2, Other: -1, Rests: []int{3, 0}}}
	return a, []api.Setting{
		{Fans: []int{api.FanOn}, Doors: []int{-1}},
		{Fans: []int{-1}, Doors: []int{1}},
		{Fans: []int{api.FanReversed}, Doors: []int{0}},
		{Fans: []int{api.FanStopped}, Doors: []int{1}},
	}
}

// statesOf returns the small states of the ring that fit in a setting: their flows, which are the same in all three roads.
func statesOf(a api.Air, s api.Setting) []int {
	var l []int
	for flow := -4; flow <= 4; flow++ {
		for first := -40; first <= 40; first++ {
			for second := -40; second <= 40; second++ {
				x := api.State{Pressures: []int{0, first, second}, Flows: []int{flow, flow, flow}}
				if branch.Fits(a, s, x) == api.OK {
					l = append(l, flow)
				}
			}
		}
	}
	return l
}

// T1: every state that fits has its flows in Analyse; and with true measurements in what Tighten returns, too, and none contradicts.
func TestStatesThatFit(t *testing.T) {
	a, settings := ring()
	l := []api.Sensor{sensorOf(0), sensorOf(2), sensorOf(0), sensorOf(1)}
	found, narrower := 0, 0
	for _, s := range settings {
		flows, code := airflow.Analyse(a, s)
		if code != api.OK || len(flows) != 3 {
			t.Fatalf("%v and %d", flows, code)
		}
		for _, flow := range statesOf(a, s) {
			found++
			m := []api.Measure{said(3, 20, flow-2, flow), said(1, 15, flow, flow), said(0, 20, flow, flow+1), said(2, 20, flow-1, flow+9)}
			tight, against := airflow.Tighten(flows, l, m, 20)
			for road := range 3 {
				if outside(flow, flows[road]) || outside(flow, tight[road]) {
					t.Errorf("the flow %d of the road %d, in %v and %v", flow, road, flows[road], tight[road])
				}
			}
			if len(against) != 0 {
				t.Errorf("the flow %d: %v", flow, against)
			}
			if !same(flows, tight) {
				narrower++
			}
		}
	}
	if found < 20 || narrower < 10 {
		t.Errorf("%d states, %d times more is known", found, narrower)
	}
}

// outside reports whether a number is not in a span.
func outside(n int, s api.Span) bool { return n < s.Low || n > s.High }
