package branch

import (
	"math"
	"slices"
	"testing"

	"minecontrol/api"
)

// wantFlow checks what Flow answers.
func wantFlow(t *testing.T, a api.Air, s api.Setting, road, pressure int, want api.Span) {
	t.Helper()
	if got := Flow(a, s, road, pressure); got != want {
		t.Errorf("%+v, road %d at %d: %v, want %v", s, road, pressure, got, want)
	}
}

// P9.3: the example of the document, and the differences around it.
func TestFlowExample(t *testing.T) {
	a := alone(exactly(2), exactly(0))
	l := []struct {
		pressure int
		want     api.Span
	}{
		{199, spanOf(9, 10)},
		{200, spanOf(10, 10)},
		{201, spanOf(10, 11)},
		{242, spanOf(11, 11)},
		{3, spanOf(1, 2)},
		{2, spanOf(1, 1)},
		{1, spanOf(0, 1)},
		{0, spanOf(0, 0)},
		{-1, spanOf(-1, 0)},
		{-2, spanOf(-1, -1)},
		{-3, spanOf(-2, -1)},
		{-199, spanOf(-10, -9)},
		{-200, spanOf(-10, -10)},
		{-201, spanOf(-11, -10)},
	}
	for _, x := range l {
		wantFlow(t, a, api.Setting{}, 0, x.pressure, x.want)
	}
}

// P9.3: spans of the resistance and of the lift: Low belongs to High of Drop, and High to Low of it.
func TestFlowOfSpans(t *testing.T) {
	a := alone(spanOf(3, 5), spanOf(-20, 30))
	// At the flows from -3 on, Drop is from -75, -50, -35, -30, -27, -18 and -3 to -7, 8, 17, 20, 25, 40 and 65.
	l := []struct {
		pressure int
		want     api.Span
	}{
		{-76, spanOf(-6, -3)},
		{-75, spanOf(-6, -3)},
		{-74, spanOf(-6, -2)},
		{-50, spanOf(-5, -2)},
		{-49, spanOf(-5, -1)},
		{-35, spanOf(-5, -1)},
		{-34, spanOf(-5, 0)},
		{-30, spanOf(-5, 0)},
		{-29, spanOf(-5, 1)},
		{-8, spanOf(-4, 3)},
		{-7, spanOf(-3, 3)},
		{0, spanOf(-3, 4)},
		{7, spanOf(-3, 4)},
		{8, spanOf(-2, 4)},
		{17, spanOf(-1, 4)},
		{19, spanOf(-1, 5)},
		{20, spanOf(0, 5)},
		{24, spanOf(0, 5)},
		{25, spanOf(1, 5)},
		{40, spanOf(2, 5)},
		{64, spanOf(2, 6)},
		{65, spanOf(3, 6)},
	}
	for _, x := range l {
		wantFlow(t, a, api.Setting{}, 0, x.pressure, x.want)
	}
}

// P9.3: fans and doors of the road count, in their states.
func TestFlowWithFansAndDoors(t *testing.T) {
	a := usual()
	open := []int{1, 2, 1, 0}
	// The road 2 has from 2 to 5 as its resistance, 7 as its lift, and 40 from its fan.
	wantFlow(t, a, api.Setting{Fans: []int{0, 1, 0}, Doors: open}, 2, 0, spanOf(3, 5))
	wantFlow(t, a, api.Setting{Fans: []int{0, 2, 0}, Doors: open}, 2, 0, spanOf(-5, -2))
	wantFlow(t, a, api.Setting{Fans: []int{0, -1, 0}, Doors: open}, 2, 0, spanOf(-5, 5))
	wantFlow(t, a, api.Setting{Fans: []int{1, 0, 1}, Doors: open}, 2, 0, spanOf(1, 2))
	wantFlow(t, a, api.Setting{Fans: []int{0, 0, 0}, Doors: open}, 2, 93, spanOf(4, 8))
	wantFlow(t, a, api.Setting{Fans: []int{0, 0, 0}, Doors: []int{1, 1, 1, 0}}, 2, 93, spanOf(1, 2))
	wantFlow(t, a, api.Setting{Fans: []int{0, 0, 0}, Doors: []int{1, -1, 1, 0}}, 2, 93, spanOf(0, 8))
	wantFlow(t, a, still(), 0, 93, spanOf(6, 7))
}

// P9.3: the ends of what can flow.
func TestFlowAtLimits(t *testing.T) {
	one := alone(exactly(1), exactly(0))
	square, next := 1<<40, (1<<20+1)*(1<<20+1)
	l := []struct {
		pressure int
		want     api.Span
	}{
		{square - 1, spanOf(1<<20-1, 1<<20)},
		{square, spanOf(1<<20, 1<<20)},
		{square + 1, spanOf(1<<20, 1<<20+1)},
		{next - 1, spanOf(1<<20, 1<<20+1)},
		{next, spanOf(1<<20, 1<<20+1)},
		{next + 1, spanOf(1<<20, 1<<20+1)},
		{1 << 47, spanOf(1<<20, 1<<20+1)},
		{math.MaxInt, spanOf(1<<20, 1<<20+1)},
		{-square + 1, spanOf(-1<<20, -1<<20+1)},
		{-square, spanOf(-1<<20, -1<<20)},
		{-square - 1, spanOf(-1<<20-1, -1<<20)},
		{-next + 1, spanOf(-1<<20-1, -1<<20)},
		{-next, spanOf(-1<<20-1, -1<<20)},
		{-next - 1, spanOf(-1<<20-1, -1<<20)},
		{-1 << 47, spanOf(-1<<20-1, -1<<20)},
		{math.MinInt, spanOf(-1<<20-1, -1<<20)},
	}
	for _, x := range l {
		wantFlow(t, one, api.Setting{}, 0, x.pressure, x.want)
	}
	// What is not known of the lift is more than all that the resistance takes.
	slack := alone(exactly(1), spanOf(-1<<41, 1<<41))
	for _, pressure := range []int{-1000, 0, 1000} {
		wantFlow(t, slack, api.Setting{}, 0, pressure, spanOf(-1<<20-1, 1<<20+1))
	}
	wantFlow(t, slack, api.Setting{}, 0, 1<<41+1<<40, spanOf(1<<20, 1<<20+1))
	wantFlow(t, slack, api.Setting{}, 0, 1<<41+1<<40-1, spanOf(1<<20-1, 1<<20+1))
	stiff := alone(exactly(1<<18), exactly(0))
	wantFlow(t, stiff, api.Setting{}, 0, 1<<47, spanOf(23170, 23171))
	wantFlow(t, stiff, api.Setting{}, 0, -1<<47, spanOf(-23171, -23170))
}

// P9.3: nothing for a road that there is not, or that is closed, or if Right does not hold.
func TestFlowOfNothing(t *testing.T) {
	for _, pressure := range []int{-1 << 47, -5, 0, 1, 200, 1 << 47, math.MinInt, math.MaxInt} {
		for _, road := range []int{-1, 3, 4, 127, 1 << 32, -1 << 32, math.MinInt, math.MaxInt} {
			wantFlow(t, usual(), still(), road, pressure, api.Span{})
		}
		wantFlow(t, api.Air{}, api.Setting{}, 0, pressure, api.Span{})
		for road := range 4 {
			closed := with(usual(), func(a *api.Air) { a.Mine.Roads[road].Closed = true })
			wantFlow(t, closed, still(), road, pressure, api.Span{})
			for _, s := range oddSettings() {
				wantFlow(t, usual(), s, road, pressure, api.Span{})
			}
			for _, f := range faults() {
				a := with(usual(), f.make)
				wantFlow(t, a, still(), road, pressure, api.Span{})
				wantFlow(t, a, unknown(a), road, pressure, api.Span{})
			}
		}
	}
	opened := with(usual(), func(a *api.Air) { a.Mine.Roads[3].Closed = false })
	wantFlow(t, opened, still(), 3, 55, spanOf(2, 2))
}

// pressures are differences of interest of an air.
func (x made) pressures() []int {
	l := []int{-1 << 47, 1 << 47, 0, -1, 1}
	for _, flow := range x.flows() {
		drop := Drop(x.a, x.s, 0, flow)
		l = append(l, drop.Low-1, drop.Low, drop.Low+1, drop.High-1, drop.High, drop.High+1)
	}
	slices.Sort(l)
	return l
}

// P9.3: what is said of both ends holds, as Drop increases: at Low, and not behind it; at High, and not ahead of it.
func TestFlowInvertsDrop(t *testing.T) {
	for _, x := range madeAirs(60) {
		for _, pressure := range x.pressures() {
			flow := Flow(x.a, x.s, 0, pressure)
			under := func(n int) bool { return Drop(x.a, x.s, 0, n).High <= pressure }
			over := func(n int) bool { return Drop(x.a, x.s, 0, n).Low >= pressure }
			low := (flow.Low == -1<<20-1 || under(flow.Low)) && (flow.Low == 1<<20 || !under(flow.Low+1))
			high := (flow.High == 1<<20+1 || over(flow.High)) && (flow.High == -1<<20 || !over(flow.High-1))
			if !low || !high || flow.Low < -1<<20-1 || flow.Low > 1<<20 || flow.High < -1<<20 || flow.High > 1<<20+1 {
				t.Fatalf("%+v at %d: %v", x, pressure, flow)
			}
		}
	}
}

// P9.3: both ends are those that a look at each flow finds.
func TestFlowIsFound(t *testing.T) {
	for _, x := range []struct {
		rest, lift api.Span
		pressure   int
	}{
		{spanOf(1, 5), spanOf(-7, 9), 1000},
		{spanOf(3, 4), spanOf(-1<<30, 1<<31), -1 << 38},
		{spanOf(1, 2), spanOf(-1<<41, 1<<41), 12345},
		{exactly(1 << 18), exactly(-1 << 41), 1 << 47},
		{exactly(1), exactly(1 << 41), 1 << 47},
		{exactly(1), exactly(-1 << 41), -1 << 47},
	} {
		want := spanOf(-1<<20-1, 1<<20+1)
		for flow := -1<<20 - 1; flow <= 1<<20; flow++ {
			square := flow * max(flow, -flow)
			if max(square*x.rest.Low, square*x.rest.High)-x.lift.Low <= x.pressure {
				want.Low = flow
			}
		}
		for flow := 1<<20 + 1; flow >= -1<<20; flow-- {
			square := flow * max(flow, -flow)
			if min(square*x.rest.Low, square*x.rest.High)-x.lift.High >= x.pressure {
				want.High = flow
			}
		}
		wantFlow(t, alone(x.rest, x.lift), api.Setting{}, 0, x.pressure, want)
	}
}

// Chapter 9, consequences: both ends of Flow do not fall when the difference grows, and Low is at most High.
func TestFlowRises(t *testing.T) {
	for _, x := range madeAirs(60) {
		before := Flow(x.a, x.s, 0, -1<<47)
		for _, pressure := range x.pressures() {
			flow := Flow(x.a, x.s, 0, pressure)
			if flow.Low < before.Low || flow.High < before.High || flow.Low > flow.High {
				t.Fatalf("%+v at %d: %v, before it %v", x, pressure, flow, before)
			}
			before = flow
		}
	}
}

// Chapter 9, consequences: a flow at which a difference is possible is in the Flow of this difference.
func TestFlowContainsFlows(t *testing.T) {
	for _, x := range madeAirs(60) {
		for _, flow := range x.flows() {
			drop := Drop(x.a, x.s, 0, flow)
			for _, pressure := range []int{drop.Low, drop.Low + (drop.High-drop.Low)/3, drop.High} {
				s := Flow(x.a, x.s, 0, pressure)
				if flow < s.Low || flow > s.High {
					t.Fatalf("%+v at %d: %v without %d", x, pressure, s, flow)
				}
			}
		}
	}
}
