package fan

import (
	"math"
	"testing"

	"minecontrol/api"
)

// wantAt checks what At answers.
func wantAt(t *testing.T, f api.Fan, state, flow int, want api.Span) {
	t.Helper()
	if got := At(f, state, flow); got != want {
		t.Errorf("%+v, state %d at %d: %v, want %v", f, state, flow, got, want)
	}
}

// backward returns a fan that blows against its road.
func backward(f api.Fan) api.Fan {
	f.Back = true
	return f
}

// P7.3: each state of a fan that blows along its road, and of one that blows against it.
func TestAt(t *testing.T) {
	f := made(api.Point{Flow: 0, Pressure: 100}, api.Point{Flow: 3, Pressure: 90}, api.Point{Flow: 7, Pressure: 1})
	l := []struct {
		flow     int
		along    api.Span
		against  api.Span
		notKnown api.Span
		name     string
	}{
		{-8, spanOf(100, 100), spanOf(-1, -1), spanOf(-1, 100), "both beyond the points"},
		{-4, spanOf(100, 100), spanOf(-68, -67), spanOf(-68, 100), "between two points against"},
		{-1, spanOf(100, 100), spanOf(-97, -96), spanOf(-97, 100), "just against"},
		{0, spanOf(100, 100), spanOf(-100, -100), spanOf(-100, 100), "no flow"},
		{1, spanOf(96, 97), spanOf(-100, -100), spanOf(-100, 97), "just along"},
		{4, spanOf(67, 68), spanOf(-100, -100), spanOf(-100, 68), "between two points along"},
		{8, spanOf(1, 1), spanOf(-100, -100), spanOf(-100, 1), "both beyond the points, along"},
		{-1<<20 - 1, spanOf(100, 100), spanOf(-1, -1), spanOf(-1, 100), "the least flow"},
		{1<<20 + 1, spanOf(1, 1), spanOf(-100, -100), spanOf(-100, 1), "the greatest flow"},
	}
	for _, x := range l {
		t.Run(x.name, func(t *testing.T) {
			wantAt(t, f, 0, x.flow, api.Span{})
			wantAt(t, f, 1, x.flow, x.along)
			wantAt(t, f, 2, x.flow, x.against)
			wantAt(t, f, -1, x.flow, x.notKnown)
			wantAt(t, backward(f), 0, x.flow, api.Span{})
			wantAt(t, backward(f), 1, x.flow, x.against)
			wantAt(t, backward(f), 2, x.flow, x.along)
			wantAt(t, backward(f), -1, x.flow, x.notKnown)
		})
	}
}

// P7.3: at a curve without pressure, only 0 is left in each state.
func TestAtWithoutPressure(t *testing.T) {
	f := made(api.Point{Flow: -3}, api.Point{Flow: 3})
	for state := -1; state <= 2; state++ {
		for flow := -5; flow <= 5; flow++ {
			wantAt(t, f, state, flow, api.Span{})
		}
	}
	ends := made(api.Point{Flow: 2, Pressure: 8}, api.Point{Flow: 4})
	wantAt(t, ends, -1, 9, spanOf(-8, 0))
	wantAt(t, ends, -1, -9, spanOf(0, 8))
	wantAt(t, backward(ends), -1, 9, spanOf(-8, 0))
	wantAt(t, backward(ends), -1, -9, spanOf(0, 8))
}

// P7.3: nothing for a state that there is not.
func TestAtOtherStates(t *testing.T) {
	for _, f := range goodFans() {
		for _, state := range []int{-2, -3, 3, 4, 255, 1<<32 + 1, 1<<32 - 1, math.MinInt, math.MaxInt} {
			for _, flow := range []int{-1 << 20, -1, 0, 1, 1 << 20} {
				wantAt(t, f, state, flow, api.Span{})
				wantAt(t, backward(f), state, flow, api.Span{})
			}
		}
	}
}

// P7.3: nothing at a flow that is out of its range.
func TestAtOtherFlows(t *testing.T) {
	for _, f := range goodFans() {
		for _, flow := range []int{-1<<20 - 2, 1<<20 + 2, -1 << 32, 1 << 32, math.MinInt, math.MinInt + 1, math.MaxInt} {
			for state := -2; state <= 3; state++ {
				wantAt(t, f, state, flow, api.Span{})
				wantAt(t, backward(f), state, flow, api.Span{})
			}
		}
	}
}

// P7.3: nothing for a fan that has an error.
func TestAtOfOddFans(t *testing.T) {
	for _, x := range oddFans() {
		for _, flow := range []int{-1<<20 - 1, -5, 0, 1, 2, 5, 1<<20 + 1} {
			for state := -2; state <= 3; state++ {
				wantAt(t, x.f, state, flow, api.Span{})
				wantAt(t, backward(x.f), state, flow, api.Span{})
			}
		}
	}
}

// permitted are those of some flows at which At says something.
func permitted(flows []int) []int {
	l := []int{-1<<20 - 1, -1 << 20, 1 << 20, 1<<20 + 1}
	for _, flow := range flows {
		if -1<<20 <= flow && flow <= 1<<20 {
			l = append(l, flow, -flow)
		}
	}
	return l
}

// P7.3: each state is what Curve and its mirror image say, for many made curves and at all limits.
func TestAtIsCurve(t *testing.T) {
	for _, f := range append(goodFans(), madeFans()...) {
		for _, flow := range permitted(flowsOf(f)) {
			along, mirror := Curve(f, flow), Curve(f, -flow)
			against := spanOf(-mirror.High, -mirror.Low)
			// No pressure of a curve is less than 0, so the mirror image is the lower one.
			notKnown := spanOf(against.Low, along.High)
			for state, want := range []api.Span{{}, along, against} {
				wantAt(t, f, state, flow, want)
			}
			for state, want := range []api.Span{{}, against, along} {
				wantAt(t, backward(f), state, flow, want)
			}
			wantAt(t, f, -1, flow, notKnown)
			wantAt(t, backward(f), -1, flow, notKnown)
		}
	}
}

// Chapter 7, consequences: at a greater flow, neither end is greater.
func TestAtFalls(t *testing.T) {
	for _, f := range append(goodFans(), madeFans()[:40]...) {
		for _, g := range []api.Fan{f, backward(f)} {
			for state := -1; state <= 2; state++ {
				before := At(g, state, -1<<20-1)
				for flow := -1<<20 - 1; flow <= 1<<20+1; flow += 997 {
					for _, n := range []int{flow, min(flow+1, 1<<20+1)} {
						s := At(g, state, n)
						if s.Low > before.Low || s.High > before.High || s.Low > s.High {
							t.Fatalf("%+v, state %d at %d: %v, before it %v", g, state, n, s, before)
						}
						before = s
					}
				}
			}
		}
	}
}
