package relax_test

import (
	"math"
	"reflect"
	"testing"

	"minecontrol/api"
	"minecontrol/branch"
	"minecontrol/relax"
)

// fault is a change that gives an error to what Rise and Fall begin with.
type fault struct {
	name string
	make func(x *made)
	code api.Errno
}

// airFaults are faults of the air, in the order in which branch.Check finds them.
func airFaults() []fault {
	return []fault{
		{"many places", func(x *made) { x.a.Mine.Places = append(x.a.Mine.Places, make([]api.Place, 58)...) }, api.ErrLimit},
		{"a height", func(x *made) { x.a.Mine.Places[4].Height = 10001 }, api.ErrRange},
		{"a road to itself", func(x *made) { x.a.Mine.Roads[5].To = 3 }, api.ErrRoad},
		{"a closed road without a length", func(x *made) { x.a.Mine.Roads[8].Length = 0 }, api.ErrRange},
		{"many fans", func(x *made) { x.a.Fans = append(x.a.Fans, make([]api.Fan, 7)...) }, api.ErrLimit},
		{"a fan whose points are the same", func(x *made) { x.a.Fans[0].Curve = make([]api.Point, 2) }, api.ErrFan},
		{"a fan in no road", func(x *made) { x.a.Fans[1].Road = 9 }, api.ErrRoad},
		{"a door with the door of another one", func(x *made) { x.a.Doors[1].Other = 0 }, api.ErrDoor},
		{"a door in no road", func(x *made) { x.a.Doors[3].Road = 9 }, api.ErrRoad},
	}
}

// settingFaults are faults of the setting.
func settingFaults() []fault {
	l := []fault{{"no setting", func(x *made) { x.s = api.Setting{} }, api.ErrSetting}}
	for _, s := range []api.Setting{
		{Fans: []int{1, -1}},
		{Doors: []int{1, 2, 0, -1}},
		{Fans: []int{1}, Doors: []int{1, 2, 0, -1}},
		{Fans: []int{1, -1, 0}, Doors: []int{1, 2, 0, -1}},
		{Fans: []int{1, -1}, Doors: []int{1, 2, 0}},
		{Fans: []int{1, -1}, Doors: []int{1, 2, 0, -1, 0}},
		{Fans: []int{3, -1}, Doors: []int{1, 2, 0, -1}},
		{Fans: []int{1, -2}, Doors: []int{1, 2, 0, -1}},
		{Fans: []int{1, -1}, Doors: []int{2, 2, 0, -1}},
		{Fans: []int{1, -1}, Doors: []int{1, 3, 0, -1}},
		{Fans: []int{1, -1}, Doors: []int{1, 2, 0, -2}},
	} {
		l = append(l, fault{"a setting", func(x *made) { x.s = s }, api.ErrSetting})
	}
	return l
}

// lengthFaults are faults of the number of pressures.
func lengthFaults() []fault {
	return []fault{
		{"no pressures", func(x *made) { x.start = nil }, api.ErrLength},
		{"an empty list", func(x *made) { x.start = []int{} }, api.ErrLength},
		{"a pressure less", func(x *made) { x.start = x.start[:6] }, api.ErrLength},
		{"a pressure more", func(x *made) { x.start = append(x.start, 0) }, api.ErrLength},
		{"many pressures", func(x *made) { x.start = make([]int, 64) }, api.ErrLength},
	}
}

// rangeFaults are pressures out of their range.
func rangeFaults() []fault {
	var l []fault
	for place := range 7 {
		for _, pressure := range []int{most + 1, -most - 1, math.MaxInt, math.MinInt, 1 << 47, -1 << 50} {
			l = append(l, fault{"a pressure out of its range", func(x *made) { put(x, place, pressure) }, api.ErrRange})
		}
	}
	return l
}

// proofFaults are pressures that are not 0 at places of the surface, and at places that are cut off.
func proofFaults() []fault {
	var l []fault
	for _, place := range []int{0, 3, 4, 5, 6} {
		for _, pressure := range []int{1, -1, 7, most, -most} {
			l = append(l, fault{"a pressure that is given", func(x *made) { put(x, place, pressure) }, api.ErrProof})
		}
	}
	return l
}

// put changes a pressure, if there is one.
func put(x *made, place, pressure int) {
	if place < len(x.start) {
		x.start = changed(x.start, place, pressure)
	}
}

// wantFault checks that Rise and Fall find an error in the usual air and pressures with some faults.
func wantFault(t *testing.T, want api.Errno, l ...fault) {
	t.Helper()
	x, name := usual(), ""
	for _, f := range l {
		f.make(&x)
		name += f.name + "; "
	}
	rise, code := relax.Rise(x.a, x.s, x.start)
	fall, other := relax.Fall(x.a, x.s, x.start)
	if code != want || other != want || len(rise) != 0 || len(fall) != 0 {
		t.Errorf("%s: %v and %d, %v and %d, want %d", name, rise, code, fall, other, want)
	}
}

// P12.1: the errors of branch.Check, as it finds them.
func TestRoundsOfFaultyAir(t *testing.T) {
	l := airFaults()
	for i, f := range l {
		wantFault(t, f.code, f)
		for _, second := range l[i+1:] {
			wantFault(t, f.code, second, f)
		}
		x := usual()
		f.make(&x)
		if code := branch.Check(x.a); code != f.code {
			t.Errorf("%s: branch.Check answers %d", f.name, code)
		}
	}
}

// P12.1: the other errors, each alone.
func TestRoundsFaults(t *testing.T) {
	for _, l := range [][]fault{settingFaults(), lengthFaults(), rangeFaults(), proofFaults()} {
		for _, f := range l {
			wantFault(t, f.code, f)
		}
	}
	wantRise(t, made{a: airOf(1), s: api.Setting{Fans: []int{0}}, start: []int{0}}, nil, api.ErrSetting)
	wantFall(t, made{a: airOf(1), s: api.Setting{Doors: []int{0}}, start: []int{0}}, nil, api.ErrSetting)
	wantRise(t, of(api.Air{}, 0), nil, api.ErrLength)
	wantFall(t, of(api.Air{}, 0), nil, api.ErrLength)
	wantRise(t, of(airOf(1), 5), nil, api.ErrProof)
	wantFall(t, of(airOf(2, closed(plain(1, 0, 1))), 0, -5), nil, api.ErrProof)
}

// P12.1: of two errors the one that the chapter lists first counts.
func TestRoundsErrorOrder(t *testing.T) {
	levels := [][]fault{airFaults(), settingFaults(), lengthFaults(), rangeFaults(), proofFaults()}
	for i, level := range levels {
		for _, later := range levels[i+1:] {
			for _, second := range later {
				for _, first := range level {
					wantFault(t, first.code, second, first)
				}
			}
		}
	}
}

// P12.1: a pressure that is out of its range is found ahead of one that is given, at whatever place both are; and both ahead of what only the rounds would find.
func TestRoundsRangeAheadOfProof(t *testing.T) {
	for _, f := range proofFaults() {
		for place := 1; place <= 2; place++ {
			wantFault(t, api.ErrRange, f, fault{"low", func(x *made) { x.start[place] = -most - 1 }, api.ErrRange})
			wantFault(t, api.ErrRange, f, fault{"high", func(x *made) { x.start[place] = most + 1 }, api.ErrRange})
		}
	}
	wantRise(t, of(slow(1, 2, -300), 0, 0, 0), nil, api.ErrLimit)
	wantRise(t, of(slow(1, 2, -300), 1, 0, 0), nil, api.ErrProof)
	wantRise(t, of(slow(1, 2, -300), 1, 0, most+1), nil, api.ErrRange)
	wantFall(t, of(slow(1, 2, 300), 1, 0, 0), nil, api.ErrProof)
	wantFall(t, of(chain(1, 1), 0, -most, -most), nil, api.ErrLimit)
	wantFall(t, of(chain(1, 1), 0, -most, -most-1), nil, api.ErrRange)
}

// P12.1: pressures at their limits are in their range.
func TestRoundsPressuresAtLimits(t *testing.T) {
	x := of(airOf(3, plain(0, 1, 1), plain(0, 2, 3)), 0, most, -most)
	wantRise(t, x, []int{0, most, 0}, api.OK)
	wantFall(t, x, []int{0, 0, -most}, api.OK)
}

// largest returns an air with as much of everything as is permitted; every eighth place of a double ring is of the surface.
func largest() made {
	var x made
	for i := range api.MaxPlaces {
		x.a.Mine.Places = append(x.a.Mine.Places, api.Place{Height: -api.MaxHeight, Surface: i%8 == 0})
	}
	for i := range api.MaxRoads {
		x.a.Mine.Roads = append(x.a.Mine.Roads, roadOf((i+1)%64, i%64, exactly(1<<17+i), exactly(0)))
	}
	for i := range api.MaxFans {
		curve := make([]api.Point, api.MaxPoints)
		for j := range curve {
			curve[j] = api.Point{Flow: j, Pressure: 8 - j}
		}
		x.a.Fans = append(x.a.Fans, api.Fan{Road: i * 16, Back: i%2 == 0, Curve: curve})
		x.s.Fans = append(x.s.Fans, -1)
	}
	for i := range api.MaxDoors {
		x.a.Doors = append(x.a.Doors, api.Door{Road: i, Other: i ^ 1, Rests: []int{5, 4, 3, 2, 1, 0}})
		x.s.Doors = append(x.s.Doors, -1)
	}
	x.start = make([]int, api.MaxPlaces)
	return x
}

// P12.1, P12.2: the largest air.
func TestLargestAir(t *testing.T) {
	x := largest()
	want, code := solved(x.a, x.s)
	if code != api.OK || want.High[1] != 8 || want.Low[55] != -8 {
		t.Errorf("%v and %d", want, code)
	}
	wantSolve(t, "largest", x.a, x.s, want, code)
}

// behind returns a list with elements behind its end.
func behind[T any](l []T, more ...T) []T {
	return append(append(make([]T, 0, len(l)+len(more)), l...), more...)[:len(l)]
}

// padded returns the usual air and pressures with things behind the ends of all lists.
func padded() made {
	x := usual()
	x.a.Mine.Places = behind(x.a.Mine.Places, api.Place{Height: math.MaxInt})
	x.a.Mine.Roads = behind(x.a.Mine.Roads, plain(1, 0, 1), api.Road{From: -1})
	for i, f := range x.a.Fans {
		x.a.Fans[i].Curve = behind(f.Curve, api.Point{Pressure: -1})
	}
	x.a.Fans = behind(x.a.Fans, api.Fan{Road: 1})
	for i, d := range x.a.Doors {
		x.a.Doors[i].Rests = behind(d.Rests, -1, -2)
	}
	x.a.Doors = behind(x.a.Doors, api.Door{Road: 1})
	x.s = api.Setting{Fans: behind(x.s.Fans, 9), Doors: behind(x.s.Doors, 9)}
	x.start = behind(x.start, 1<<60)
	return x
}

// whole returns copies of all that lists have, up to their capacities.
func whole(x made) []any {
	l := []any{full(x.a.Mine.Places), full(x.a.Mine.Roads), full(x.a.Fans), full(x.a.Doors), full(x.s.Fans), full(x.s.Doors), full(x.start)}
	for _, f := range x.a.Fans {
		l = append(l, full(f.Curve))
	}
	for _, d := range x.a.Doors {
		l = append(l, full(d.Rests))
	}
	return l
}

// full returns a copy of a list up to its capacity.
func full[T any](l []T) []T { return append([]T{}, l[:cap(l)]...) }

// R2: arguments stay as they are, and what lies behind their ends neither counts nor changes; results are new, also where nothing moves.
func TestArgumentsStay(t *testing.T) {
	for _, y := range []struct{ start, rise, fall []int }{
		{[]int{0, 0, 0, 0, 0, 0, 0}, []int{0, 29, 0, 0, 0, 0, 0}, []int{0, -92, -107, 0, 0, 0, 0}},
		{[]int{0, -92, -107, 0, 0, 0, 0}, []int{0, 16, -20, 0, 0, 0, 0}, []int{0, -92, -107, 0, 0, 0, 0}},
		{[]int{0, 29, 0, 0, 0, 0, 0}, []int{0, 29, 0, 0, 0, 0, 0}, []int{0, -92, -107, 0, 0, 0, 0}},
	} {
		x := padded()
		copy(x.start, y.start)
		before := whole(x)
		wantRise(t, x, y.rise, api.OK)
		wantFall(t, x, y.fall, api.OK)
		rise, _ := relax.Rise(x.a, x.s, x.start)
		fall, _ := relax.Fall(x.a, x.s, x.start)
		b, _ := relax.Solve(x.a, x.s)
		for _, l := range [][]int{rise, fall, b.Low, b.High} {
			if len(l) != len(x.start) {
				t.Fatalf("%v", l)
			}
			for i := range l {
				l[i] = 77
			}
		}
		if !reflect.DeepEqual(whole(x), before) {
			t.Errorf("from %v: arguments have changed", y.start)
		}
	}
}

// R2: no two lists of a result share memory.
func TestBoundsShareNothing(t *testing.T) {
	for _, lift := range []int{0, -100} {
		b, code := relax.Solve(chain(lift), api.Setting{})
		if code != api.OK || !same(b.Low, b.High) {
			t.Fatalf("%v and %d", b, code)
		}
		b.Low[1]++
		if b.High[1] != -lift {
			t.Errorf("%v", b)
		}
	}
}
