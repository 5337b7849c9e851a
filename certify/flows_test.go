package certify_test

import (
	"slices"
	"testing"

	"minecontrol/api"
	"minecontrol/branch"
	"minecontrol/certify"
)

// wantFlows checks what Flows answers.
func wantFlows(t *testing.T, x proof, want ...api.Span) {
	t.Helper()
	if got := certify.Flows(x.a, x.s, x.b); !slices.Equal(got, want) {
		t.Errorf("%+v: %v, want %v", x.b, got, want)
	}
}

// P11.2: from the least flow at the least difference to the greatest one at the greatest difference.
func TestFlows(t *testing.T) {
	for _, x := range []struct {
		low, high int
		in, out   api.Span // the road in which the fan blows, and the other one
	}{
		{200, 225, spanOf(14, 15), spanOf(14, 15)},
		{0, 1000, spanOf(-23, 20), spanOf(0, 32)},    // against the fan, 22 times 22 and the 500 of the fan are less than 1000; 31 times 31 is less than 1000
		{-300, 225, spanOf(14, 27), spanOf(-18, 15)}, // with the 400 of the fan there are up to 700: 26 times 26 is 676, and 27 times 27 is 729
		{199, 226, spanOf(14, 16), spanOf(14, 16)},   // 15 times 15 is 225, and with 5 times 15 it is 300
		{200, most, spanOf(-1<<20-1, 15), spanOf(14, 1<<20+1)},
		{-most, 225, spanOf(14, 1<<20+1), spanOf(-1<<20-1, 15)},
	} {
		b := boundsOf([]int{0, x.low}, []int{0, x.high})
		wantFlows(t, proof{blown(), api.Setting{Fans: []int{api.FanOn}}, b}, x.in, x.out)
	}
}

// P11.2: the bounds of both ends count, of From the same ones as Low and High, of To the others.
func TestFlowsBetweenPlaces(t *testing.T) {
	a := airOf(3, plain(1, 0, 1), plain(2, 1, 1), plain(1, 2, 1), plain(0, 2, 1))
	x := proof{a: a, b: boundsOf([]int{0, -9, -10}, []int{0, 100, 120})}
	// The differences are -9 to 100, -110 to 129, -129 to 110, and -120 to 10.
	wantFlows(t, x, spanOf(-3, 10), spanOf(-11, 12), spanOf(-12, 11), spanOf(-11, 4))
}

// P11.2: the air of a road whose resistance, lift, fans and doors are spans.
func TestFlowsOfSpans(t *testing.T) {
	a := airOf(2, roadOf(1, 0, spanOf(1, 4), spanOf(-120, -80)))
	x := proof{a: a, b: boundsOf([]int{0, 80}, []int{0, 120})}
	wantFlows(t, x, spanOf(-7, 7)) // 40 more or less than the lift with a resistance of 1
	x.a.Doors = []api.Door{{Road: 0, Other: -1, Rests: []int{99, 3}}}
	x.s.Doors = []int{1}
	wantFlows(t, x, spanOf(-4, 4))
	x.s.Doors = []int{-1}
	wantFlows(t, x, spanOf(-4, 4))
	x.s.Doors = []int{0}
	wantFlows(t, x, spanOf(-1, 1))
	x.b = boundsOf([]int{0, 80 - 100}, []int{0, 120})
	wantFlows(t, x, spanOf(-2, 1))
}

// P11.2: nothing flows where a road is closed, and nothing is known between places that are cut off.
func TestFlowsOfOtherRoads(t *testing.T) {
	x := proof{
		a: airOf(5,
			closed(plain(0, 1, 1)),
			roadOf(1, 2, exactly(1), exactly(500)),
			plain(2, 1, 1),
			closed(roadOf(2, 1, exactly(1), exactly(-500))),
			plain(3, 0, 1),
			closed(plain(3, 0, 1)),
			closed(plain(2, 3, 1)),
			plain(4, 2, 1),
		),
		b: boundsOf([]int{0, 0, 0, -100, 0}, []int{0, 0, 0, 100, 0}),
	}
	x.a.Fans = []api.Fan{{Road: 0, Curve: []api.Point{{Pressure: 900}}}, {Road: 1, Curve: []api.Point{{Pressure: 900}}}}
	x.s.Fans = []int{api.FanOn, api.FanOn}
	ten := spanOf(-10, 10)
	wantFlows(t, x, api.Span{}, nothing(), nothing(), api.Span{}, ten, api.Span{}, api.Span{}, nothing())
	y := usual()
	flows := certify.Flows(y.a, y.s, y.b)
	if len(flows) != 9 || flows[3] != (api.Span{}) || flows[6] != nothing() || flows[7] != (api.Span{}) || flows[8] != (api.Span{}) {
		t.Errorf("%v", flows)
	}
	wantFlows(t, proof{})
	wantFlows(t, proof{a: airOf(1), b: boundsOf([]int{0}, []int{0})})
}

// P11.2: between places of the surface the difference is 0, whatever flows elsewhere.
func TestFlowsOfTheSurface(t *testing.T) {
	a := airOf(2, roadOf(0, 1, exactly(1), exactly(400)), roadOf(1, 0, spanOf(1, 4), spanOf(-90, 100)))
	a.Mine.Places[1].Surface = true
	wantFlows(t, proof{a: a, b: boundsOf([]int{0, 0}, []int{0, 0})}, exactly(20), spanOf(-10, 10))
}

// P11.2: what chapter 11 says, for accepted bounds of many made airs.
func TestFlowsOfMadeBounds(t *testing.T) {
	for _, x := range proofs(120) {
		var want []api.Span
		apart := lost(x.a)
		for i, r := range x.a.Mine.Roads {
			low := branch.Flow(x.a, x.s, i, x.b.Low[r.From]-x.b.High[r.To]).Low
			high := branch.Flow(x.a, x.s, i, x.b.High[r.From]-x.b.Low[r.To]).High
			switch {
			case r.Closed:
				want = append(want, exactly(0))
			case apart[r.From] || apart[r.To]:
				want = append(want, nothing())
			default:
				want = append(want, spanOf(low, high))
			}
		}
		wantFlows(t, x, want...)
	}
}

// P11.2: bounds that are wider prove no more of any road.
func TestFlowsOfWiderBounds(t *testing.T) {
	wider := 0
	for _, x := range proofs(80) {
		flows := certify.Flows(x.a, x.s, x.b)
		y := x
		y.b = boundsOf(make([]int, len(x.b.Low)), make([]int, len(x.b.High)))
		for place, p := range x.a.Mine.Places {
			if !p.Surface && !lost(x.a)[place] {
				y.b.Low[place], y.b.High[place] = x.b.Low[place]-5, x.b.High[place]+5
			}
		}
		if certify.Check(y.a, y.s, y.b) != api.OK {
			continue
		}
		wider++
		for road, f := range certify.Flows(y.a, y.s, y.b) {
			if f.Low > flows[road].Low || f.High < flows[road].High {
				t.Errorf("%+v, road %d: %v, with wider bounds %v", x, road, flows[road], f)
			}
		}
	}
	if wider < 20 {
		t.Errorf("%d of 80", wider)
	}
}
