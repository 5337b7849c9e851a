package fan

import (
	"math"
	"slices"
	"testing"

	"minecontrol/api"
)

// made returns a fan with a curve.
func made(curve ...api.Point) api.Fan {
	return api.Fan{Road: 3, Curve: curve}
}

// steps returns a curve of so many points with greatest differences between them.
func steps(points int) []api.Point {
	var l []api.Point
	for i := range points {
		l = append(l, api.Point{Flow: -1<<20 + i*1<<18, Pressure: 1<<41 - i*1<<38})
	}
	return l
}

// oddFan is a fan that has an error.
type oddFan struct {
	name string
	f    api.Fan
	code api.Errno
}

// oddPoints are numbers out of their ranges, in the first point, a middle one and the last one.
func oddPoints() []oddFan {
	var l []oddFan
	add := func(name string, p api.Point) {
		for i := range 3 {
			curve := []api.Point{{Flow: -5, Pressure: 9}, {Flow: 0, Pressure: 9}, {Flow: 5, Pressure: 2}}
			curve[i] = p
			l = append(l, oddFan{name, made(curve...), api.ErrRange})
		}
		l = append(l, oddFan{name + ", alone", made(p), api.ErrRange})
	}
	for _, flow := range []int{-1<<20 - 1, 1<<20 + 1, -1 << 40, 1 << 40, math.MinInt, math.MaxInt} {
		add("a flow out of its range", api.Point{Flow: flow, Pressure: 5})
	}
	for _, pressure := range []int{-1, 1<<41 + 1, math.MinInt, math.MaxInt} {
		add("a pressure out of its range", api.Point{Flow: 0, Pressure: pressure})
	}
	return l
}

// oddFans are fans that have an error.
func oddFans() []oddFan {
	good := []api.Point{{Flow: 0, Pressure: 100}, {Flow: 3, Pressure: 90}}
	l := []oddFan{
		{"the road -1", api.Fan{Road: -1, Curve: good}, api.ErrRoad},
		{"the least road", api.Fan{Road: math.MinInt, Curve: good}, api.ErrRoad},
		{"no points", api.Fan{}, api.ErrLimit},
		{"an empty list of points", made([]api.Point{}...), api.ErrLimit},
		{"9 points", made(steps(9)...), api.ErrLimit},
		{"many points", made(steps(300)...), api.ErrLimit},
		{"the same flow again", made(api.Point{Flow: 2, Pressure: 9}, api.Point{Flow: 2, Pressure: 5}), api.ErrFan},
		{"the same point again", made(api.Point{Flow: 2, Pressure: 9}, api.Point{Flow: 2, Pressure: 9}), api.ErrFan},
		{"a lesser flow", made(api.Point{Flow: 2, Pressure: 9}, api.Point{Flow: 1, Pressure: 9}), api.ErrFan},
		{"a greater pressure", made(api.Point{Flow: 2, Pressure: 9}, api.Point{Flow: 3, Pressure: 10}), api.ErrFan},
		{"points the other way round", made(good[1], good[0]), api.ErrFan},
		{"the same flow at the end", made(api.Point{}, api.Point{Flow: 1}, api.Point{Flow: 2}, api.Point{Flow: 2}), api.ErrFan},
		{"a greater pressure at the end", made(api.Point{Pressure: 7}, api.Point{Flow: 1, Pressure: 5}, api.Point{Flow: 2, Pressure: 6}), api.ErrFan},
		{"from the greatest flow to the least", made(api.Point{Flow: 1 << 20}, api.Point{Flow: -1 << 20}), api.ErrFan},
		{"from no pressure to the greatest", made(api.Point{}, api.Point{Flow: 1, Pressure: 1 << 41}), api.ErrFan},
	}
	return append(l, oddPoints()...)
}

// goodFans are fans that have no error.
func goodFans() []api.Fan {
	return []api.Fan{
		made(api.Point{}),
		made(api.Point{Flow: 5, Pressure: 70}),
		made(api.Point{Flow: -5, Pressure: 70}),
		made(api.Point{Flow: 0, Pressure: 100}, api.Point{Flow: 3, Pressure: 90}),
		made(api.Point{Flow: -7, Pressure: 10}, api.Point{Flow: -6, Pressure: 10}, api.Point{Flow: 9, Pressure: 0}),
		made(api.Point{Flow: -100, Pressure: 1000}, api.Point{Flow: -1, Pressure: 996}, api.Point{Flow: 0, Pressure: 500}, api.Point{Flow: 13, Pressure: 499}, api.Point{Flow: 64, Pressure: 0}),
		made(api.Point{Flow: -1 << 20, Pressure: 1 << 41}),
		made(api.Point{Flow: 1 << 20, Pressure: 1 << 41}),
		made(api.Point{Flow: -1 << 20, Pressure: 1 << 41}, api.Point{Flow: 1 << 20, Pressure: 0}),
		made(api.Point{Flow: -1 << 20, Pressure: 1 << 41}, api.Point{Flow: 1<<20 - 1, Pressure: 1}),
		made(api.Point{Flow: -1 << 20, Pressure: 1 << 41}, api.Point{Flow: 1<<20 - 1, Pressure: 1<<41 - 1}, api.Point{Flow: 1 << 20}),
		made(api.Point{Flow: -1 << 20, Pressure: 1 << 41}, api.Point{Flow: 1 << 20, Pressure: 1 << 41}),
		made(steps(7)...),
		made(steps(8)...),
	}
}

// P7.1: fans without an error, also at all limits.
func TestCheck(t *testing.T) {
	for _, f := range goodFans() {
		for _, road := range []int{0, 1, 127, 128, math.MaxInt} {
			for _, set := range []bool{false, true} {
				f.Road, f.Back, f.Auxiliary = road, set, !set
				if code := Check(f); code != api.OK {
					t.Errorf("%+v: %d", f, code)
				}
			}
		}
	}
}

// P7.1: errors, each alone.
func TestCheckErrors(t *testing.T) {
	for _, x := range oddFans() {
		for _, set := range []bool{false, true} {
			x.f.Back, x.f.Auxiliary = set, set
			if code := Check(x.f); code != x.code {
				t.Errorf("%s: %+v: %d, want %d", x.name, x.f, code, x.code)
			}
		}
	}
}

// P7.1: of several errors the first one counts, and that of an earlier point ahead of that of a later one.
func TestCheckErrorOrder(t *testing.T) {
	oddPoint := api.Point{Flow: 1<<20 + 1, Pressure: -1}
	l := []oddFan{
		{"road and no points", api.Fan{Road: -1}, api.ErrRoad},
		{"road and many points", api.Fan{Road: -1, Curve: steps(9)}, api.ErrRoad},
		{"road and range", api.Fan{Road: -1, Curve: []api.Point{oddPoint}}, api.ErrRoad},
		{"road and points that rise", api.Fan{Road: -1, Curve: []api.Point{{}, {Pressure: 1}}}, api.ErrRoad},
		{"many points and range", made(append(steps(8), oddPoint)...), api.ErrLimit},
		{"many points, the first one out of range", made(append([]api.Point{oddPoint}, steps(8)...)...), api.ErrLimit},
		{"many points that are the same", made(make([]api.Point, 9)...), api.ErrLimit},
		{"a point out of range that is less, too", made(api.Point{Flow: 5}, api.Point{Flow: -1<<20 - 1}), api.ErrRange},
		{"a point out of range with more pressure", made(api.Point{}, api.Point{Flow: 1, Pressure: 1<<41 + 1}), api.ErrRange},
		{"a point out of range with the same flow", made(api.Point{}, api.Point{Pressure: -1}), api.ErrRange},
		{"range ahead of a point that is no more", made(api.Point{Pressure: -1}, api.Point{Pressure: -1}), api.ErrRange},
		{"a point that is no more ahead of range", made(api.Point{}, api.Point{}, oddPoint), api.ErrFan},
		{"a point that rises ahead of range", made(api.Point{}, api.Point{Flow: 1, Pressure: 1}, oddPoint), api.ErrFan},
	}
	for _, x := range l {
		if code := Check(x.f); code != x.code {
			t.Errorf("%s: %d, want %d", x.name, code, x.code)
		}
	}
}

// R2: arguments stay as they are, and what lies behind their ends neither counts nor changes.
func TestArgumentsStay(t *testing.T) {
	curve := []api.Point{{Flow: 0, Pressure: 100}, {Flow: 3, Pressure: 90}, {Flow: -1, Pressure: -1}, {Flow: math.MaxInt, Pressure: math.MaxInt}}
	before := slices.Clone(curve)
	f := made(curve[:2]...)
	for flow := -6; flow <= 6; flow++ {
		if code := Check(f); code != api.OK {
			t.Fatalf("%+v: %d", f, code)
		}
		same := made(before[0], before[1])
		if got, want := Curve(f, flow), Curve(same, flow); got != want {
			t.Errorf("at %d: %v, want %v", flow, got, want)
		}
		for state := -2; state <= 3; state++ {
			if got, want := At(f, state, flow), At(same, state, flow); got != want {
				t.Errorf("state %d at %d: %v, want %v", state, flow, got, want)
			}
		}
	}
	if !slices.Equal(curve, before) {
		t.Errorf("the points are %v", curve)
	}
}
