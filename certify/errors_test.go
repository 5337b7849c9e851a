package certify_test

import (
	"math"
	"reflect"
	"testing"

	"minecontrol/api"
	"minecontrol/branch"
	"minecontrol/certify"
)

// fault is a change that gives an error to what is checked.
type fault struct {
	name string
	make func(x *proof)
	code api.Errno
}

// airFaults are faults of the air, in the order in which Check finds them.
func airFaults() []fault {
	return []fault{
		{"many places", func(x *proof) { x.a.Mine.Places = append(x.a.Mine.Places, make([]api.Place, 58)...) }, api.ErrLimit},
		{"a height", func(x *proof) { x.a.Mine.Places[4].Height = 10001 }, api.ErrRange},
		{"a road to itself", func(x *proof) { x.a.Mine.Roads[5].To = 3 }, api.ErrRoad},
		{"a closed road without a length", func(x *proof) { x.a.Mine.Roads[8].Length = 0 }, api.ErrRange},
		{"many fans", func(x *proof) { x.a.Fans = append(x.a.Fans, make([]api.Fan, 7)...) }, api.ErrLimit},
		{"a fan whose points are the same", func(x *proof) { x.a.Fans[0].Curve = make([]api.Point, 2) }, api.ErrFan},
		{"a fan in no road", func(x *proof) { x.a.Fans[1].Road = 9 }, api.ErrRoad},
		{"a door with the door of another one", func(x *proof) { x.a.Doors[1].Other = 0 }, api.ErrDoor},
		{"a door in no road", func(x *proof) { x.a.Doors[3].Road = 9 }, api.ErrRoad},
	}
}

// settingFaults are faults of the setting.
func settingFaults() []fault {
	l := []fault{{"no setting", func(x *proof) { x.s = api.Setting{} }, api.ErrSetting}}
	for _, s := range []api.Setting{
		{Fans: []int{1, -1}},
		{Doors: []int{1, 2, 0, -1}},
		{Fans: []int{1}, Doors: []int{1, 2, 0, -1}},
		{Fans: []int{1, -1, 0}, Doors: []int{1, 2, 0, -1}},
		{Fans: []int{1, -1}, Doors: []int{1, 2, 0}},
		{Fans: []int{1, -1}, Doors: []int{1, 2, 0, -1, 0}},
		{Fans: []int{3, -1}, Doors: []int{1, 2, 0, -1}},
		{Fans: []int{1, -2}, Doors: []int{1, 2, 0, -1}},
		{Fans: []int{1, -1}, Doors: []int{2, 2, 0, -1}},
		{Fans: []int{1, -1}, Doors: []int{1, 3, 0, -1}},
		{Fans: []int{1, -1}, Doors: []int{1, 2, 0, -2}},
	} {
		l = append(l, fault{"a setting", func(x *proof) { x.s = s }, api.ErrSetting})
	}
	return l
}

// lengthFaults are faults of the numbers of pressures.
func lengthFaults() []fault {
	return []fault{
		{"no Low", func(x *proof) { x.b.Low = nil }, api.ErrLength},
		{"no High", func(x *proof) { x.b.High = []int{} }, api.ErrLength},
		{"neither", func(x *proof) { x.b = api.Bounds{} }, api.ErrLength},
		{"a Low less", func(x *proof) { x.b.Low = x.b.Low[:6] }, api.ErrLength},
		{"a High less", func(x *proof) { x.b.High = x.b.High[:6] }, api.ErrLength},
		{"a Low more", func(x *proof) { x.b.Low = append(x.b.Low, 0) }, api.ErrLength},
		{"a High more", func(x *proof) { x.b.High = append(x.b.High, 0) }, api.ErrLength},
		{"as many less as more", func(x *proof) { x.b = boundsOf(x.b.Low[:6], append(x.b.High, 0)) }, api.ErrLength},
		{"one of each more", func(x *proof) { x.b = boundsOf(append(x.b.Low, 0), append(x.b.High, 0)) }, api.ErrLength},
	}
}

// rangeFaults are pressures out of their range.
func rangeFaults() []fault {
	var l []fault
	for place := range 7 {
		for _, pressure := range []int{most + 1, -most - 1, math.MaxInt, math.MinInt, 1 << 47, -1 << 50} {
			l = append(l,
				fault{"a Low out of its range", func(x *proof) { x.b.Low = changed(x.b.Low, place, pressure) }, api.ErrRange},
				fault{"a High out of its range", func(x *proof) { x.b.High = changed(x.b.High, place, pressure) }, api.ErrRange})
		}
	}
	return l
}

// proofFaults are bounds that prove nothing.
func proofFaults() []fault {
	l := []fault{
		{"a pressure of the surface", func(x *proof) { x.b.Low = changed(x.b.Low, 0, -1) }, api.ErrProof},
		{"a pressure of a place that is cut off", func(x *proof) { x.b.High = changed(x.b.High, 5, 1) }, api.ErrProof},
	}
	for place := 1; place <= 2; place++ {
		l = append(l,
			fault{"a Low too great", func(x *proof) { x.b.Low = changed(x.b.Low, place, most) }, api.ErrProof},
			fault{"a High too small", func(x *proof) { x.b.High = changed(x.b.High, place, -most) }, api.ErrProof})
	}
	return l
}

// wantFault checks that Check finds an error in the usual bounds with some faults.
func wantFault(t *testing.T, want api.Errno, l ...fault) {
	t.Helper()
	x, name := usual(), ""
	for _, f := range l {
		f.make(&x)
		name += f.name + "; "
	}
	wantCode(t, name, x, want)
}

// P11.1: the errors of branch.Check, as it finds them.
func TestCheckOfFaultyAir(t *testing.T) {
	l := airFaults()
	for i, f := range l {
		wantFault(t, f.code, f)
		for _, second := range l[i+1:] {
			wantFault(t, f.code, second, f)
		}
		x := usual()
		f.make(&x)
		if code := branch.Check(x.a); code != f.code {
			t.Errorf("%s: branch.Check answers %d", f.name, code)
		}
	}
	wantCode(t, "no surface", proof{a: api.Air{Mine: api.Mine{Roads: []api.Road{plain(0, 1, 1)}}}}, api.ErrRoad)
}

// P11.1: the other errors, each alone.
func TestCheckFaults(t *testing.T) {
	for _, l := range [][]fault{settingFaults(), lengthFaults(), rangeFaults(), proofFaults()} {
		for _, f := range l {
			wantFault(t, f.code, f)
		}
	}
	wantCode(t, "a state without a fan", proof{a: airOf(1), s: api.Setting{Fans: []int{0}}, b: boundsOf([]int{0}, []int{0})}, api.ErrSetting)
	wantCode(t, "a pressure without a place", proof{b: boundsOf(nil, []int{0})}, api.ErrLength)
}

// P11.1: of two errors the one that the chapter lists first counts.
func TestCheckErrorOrder(t *testing.T) {
	levels := [][]fault{airFaults(), settingFaults(), lengthFaults(), rangeFaults(), proofFaults()}
	for i, level := range levels {
		for _, later := range levels[i+1:] {
			for _, second := range later {
				for _, first := range level {
					wantFault(t, first.code, second, first)
				}
			}
		}
	}
}

// P11.1: a pressure that would be out of its range is found ahead of one that proves nothing, at whatever place both are.
func TestCheckRangeAheadOfProof(t *testing.T) {
	for _, f := range proofFaults() {
		for place := 3; place <= 4; place++ {
			wantFault(t, api.ErrRange, f, fault{"low", func(x *proof) { x.b.Low[place] = -most - 1 }, api.ErrRange})
			wantFault(t, api.ErrRange, f, fault{"high", func(x *proof) { x.b.High[place] = most + 1 }, api.ErrRange})
		}
	}
}

// P11.1: pressures at their limits are in their range.
func TestCheckPressuresAtLimits(t *testing.T) {
	a := airOf(2, plain(0, 1, 1), plain(1, 0, 3))
	wantCode(t, "the widest bounds", proof{a: a, b: boundsOf([]int{0, -most}, []int{0, most})}, api.OK)
	wantCode(t, "all High", proof{a: a, b: boundsOf([]int{0, most}, []int{0, most})}, api.ErrProof)
	wantCode(t, "all Low", proof{a: a, b: boundsOf([]int{0, -most}, []int{0, -most})}, api.ErrProof)
	wantCode(t, "the surface", proof{a: a, b: boundsOf([]int{-most, 0}, []int{most, 0})}, api.ErrProof)
}

// P11.1, P11.2: the largest air, with bounds that nothing can pass.
func TestLargestAir(t *testing.T) {
	var x proof
	for i := range api.MaxPlaces {
		x.a.Mine.Places = append(x.a.Mine.Places, api.Place{Height: -api.MaxHeight, Surface: i == 0})
		x.b.Low, x.b.High = append(x.b.Low, min(0, -i)<<40), append(x.b.High, i<<40)
	}
	for i := range api.MaxRoads {
		x.a.Mine.Roads = append(x.a.Mine.Roads, roadOf((i+1)%64, i%64, exactly(1<<17+i), exactly(0)))
	}
	for i := range api.MaxFans {
		curve := make([]api.Point, api.MaxPoints)
		for j := range curve {
			curve[j] = api.Point{Flow: j, Pressure: 8 - j}
		}
		x.a.Fans = append(x.a.Fans, api.Fan{Road: i * 16, Back: i%2 == 0, Curve: curve})
		x.s.Fans = append(x.s.Fans, -1)
	}
	for i := range api.MaxDoors {
		x.a.Doors = append(x.a.Doors, api.Door{Road: i, Other: i ^ 1, Rests: []int{5, 4, 3, 2, 1, 0}})
		x.s.Doors = append(x.s.Doors, -1)
	}
	wantCode(t, "64 places in a ring", x, wanted(x))
	wide := x
	wide.b = boundsOf(make([]int, api.MaxPlaces), make([]int, api.MaxPlaces))
	for i := 1; i < api.MaxPlaces; i++ {
		// Higher towards the middle of the ring, so that at each place enough leaves on one side.
		n := (64*i - i*i) << 30
		wide.b.Low[i], wide.b.High[i] = -n, n
	}
	wantCode(t, "64 places in a ring", wide, api.OK)
}

// behind returns a list with elements behind its end.
func behind[T any](l []T, more ...T) []T {
	return append(append(make([]T, 0, len(l)+len(more)), l...), more...)[:len(l)]
}

// padded returns the usual bounds with things behind the ends of all lists.
func padded() proof {
	x := usual()
	x.a.Mine.Places = behind(x.a.Mine.Places, api.Place{Height: math.MaxInt})
	x.a.Mine.Roads = behind(x.a.Mine.Roads, plain(1, 0, 1), api.Road{From: -1})
	for i, f := range x.a.Fans {
		x.a.Fans[i].Curve = behind(f.Curve, api.Point{Pressure: -1})
	}
	x.a.Fans = behind(x.a.Fans, api.Fan{Road: 1})
	for i, d := range x.a.Doors {
		x.a.Doors[i].Rests = behind(d.Rests, -1, -2)
	}
	x.a.Doors = behind(x.a.Doors, api.Door{Road: 1})
	x.s = api.Setting{Fans: behind(x.s.Fans, 9), Doors: behind(x.s.Doors, 9)}
	x.b = boundsOf(behind(x.b.Low, 1<<60), behind(x.b.High, -1))
	return x
}

// whole returns copies of all that lists have, up to their capacities.
func whole(x proof) []any {
	l := []any{full(x.a.Mine.Places), full(x.a.Mine.Roads), full(x.a.Fans), full(x.a.Doors), full(x.s.Fans), full(x.s.Doors), full(x.b.Low), full(x.b.High)}
	for _, f := range x.a.Fans {
		l = append(l, full(f.Curve))
	}
	for _, d := range x.a.Doors {
		l = append(l, full(d.Rests))
	}
	return l
}

// full returns a copy of a list up to its capacity.
func full[T any](l []T) []T { return append([]T{}, l[:cap(l)]...) }

// R2: arguments stay as they are, and what lies behind their ends neither counts nor changes; results are new.
func TestArgumentsStay(t *testing.T) {
	x, y := padded(), usual()
	before := whole(x)
	wantCode(t, "padded", x, api.OK)
	want := certify.Flows(y.a, y.s, y.b)
	flows := certify.Flows(x.a, x.s, x.b)
	for i := range flows {
		if flows[i] != want[i] {
			t.Errorf("road %d: %v, want %v", i, flows[i], want[i])
		}
		flows[i] = exactly(77)
	}
	wantFlows(t, x, want...)
	if !reflect.DeepEqual(whole(x), before) {
		t.Error("arguments have changed")
	}
}
