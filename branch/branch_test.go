package branch

import (
	"math"
	"reflect"
	"testing"

	"minecontrol/api"
)

// spanOf returns a span.
func spanOf(low, high int) api.Span { return api.Span{Low: low, High: high} }

// exactly returns the span of one number.
func exactly(n int) api.Span { return spanOf(n, n) }

// roadOf returns an open road.
func roadOf(from, to int, rest, lift api.Span) api.Road {
	return api.Road{From: from, To: to, Length: 100, Area: 9, Rest: rest, Lift: lift}
}

// fanIn returns a fan in a road.
func fanIn(road int, back bool, curve ...api.Point) api.Fan {
	return api.Fan{Road: road, Back: back, Curve: curve}
}

// doorIn returns a door in a road.
func doorIn(road, other int, rests ...int) api.Door {
	return api.Door{Road: road, Other: other, Rests: rests}
}

// usual returns an air with three fans and four doors; two of the fans and of the doors are in the road 1.
func usual() api.Air {
	return api.Air{
		Mine: api.Mine{
			Places: []api.Place{{Surface: true}, {Height: -100}, {Height: -200}, {Height: 5, Surface: true}},
			Roads: []api.Road{
				roadOf(0, 1, exactly(2), exactly(0)),
				roadOf(1, 2, spanOf(3, 5), spanOf(-20, 30)),
				roadOf(2, 3, spanOf(1, 4), exactly(7)),
				{From: 0, To: 2, Length: 1, Area: 1, Rest: exactly(9), Lift: exactly(5), Closed: true},
			},
		},
		Fans: []api.Fan{
			fanIn(1, false, api.Point{Flow: 0, Pressure: 100}, api.Point{Flow: 3, Pressure: 90}),
			fanIn(2, false, api.Point{Flow: 0, Pressure: 40}),
			fanIn(1, true, api.Point{Flow: -2, Pressure: 60}, api.Point{Flow: 2, Pressure: 20}),
		},
		Doors: []api.Door{
			doorIn(1, 2, 50, 10),
			doorIn(2, -1, 900, 70, 1),
			doorIn(1, 0, 8, 0),
			doorIn(3, -1, 6, 5),
		},
	}
}

// still returns a setting of that air in which all fans are stopped and all doors are shut.
func still() api.Setting {
	return api.Setting{Fans: []int{0, 0, 0}, Doors: []int{0, 0, 0, 0}}
}

// with returns an air changed.
func with(a api.Air, change func(a *api.Air)) api.Air {
	change(&a)
	return a
}

// largest returns an air with as many things as there can be, and numbers at their limits.
func largest() api.Air {
	var a api.Air
	for i := range api.MaxPlaces {
		a.Mine.Places = append(a.Mine.Places, api.Place{Height: -api.MaxHeight, Surface: i < 2})
	}
	for i := range api.MaxRoads {
		a.Mine.Roads = append(a.Mine.Roads, roadOf(i%64, (i+1)%64, spanOf(1, 1<<18), spanOf(-1<<41, 1<<41)))
	}
	for i := range api.MaxFans {
		var curve []api.Point
		for j := range api.MaxPoints {
			curve = append(curve, api.Point{Flow: -1<<20 + j*1<<18, Pressure: 1<<41 - j*1<<38})
		}
		a.Fans = append(a.Fans, fanIn(127, i%2 == 1, curve...))
	}
	for i := range api.MaxDoors {
		a.Doors = append(a.Doors, doorIn(127, i^1, 1<<18, 1<<17, 1<<16, 2, 1, 0))
	}
	return a
}

// unknown returns the setting of an air in which nothing is known.
func unknown(a api.Air) api.Setting {
	s := api.Setting{Fans: make([]int, len(a.Fans)), Doors: make([]int, len(a.Doors))}
	for _, l := range [][]int{s.Fans, s.Doors} {
		for i := range l {
			l[i] = -1
		}
	}
	return s
}

// goodAirs are airs without an error.
func goodAirs() []api.Air {
	return []api.Air{
		{},
		{Mine: api.Mine{Places: []api.Place{{Surface: true}}}, Fans: []api.Fan{}, Doors: []api.Door{}},
		{Mine: usual().Mine},
		{Mine: usual().Mine, Fans: usual().Fans},
		{Mine: usual().Mine, Doors: usual().Doors},
		usual(),
		largest(),
	}
}

// fault is a change of the usual air that gives it an error.
type fault struct {
	name string
	spot string // two faults of one spot exclude one another
	make func(a *api.Air)
	code api.Errno
}

// mineFaults are faults of the mine, in the order in which Check finds them.
func mineFaults() []fault {
	return []fault{
		{"many places", "", func(a *api.Air) { a.Mine.Places = append(a.Mine.Places, make([]api.Place, 61)...) }, api.ErrLimit},
		{"height", "", func(a *api.Air) { a.Mine.Places[3].Height = 10001 }, api.ErrRange},
		{"a road to itself", "", func(a *api.Air) { a.Mine.Roads[1].To = 1 }, api.ErrRoad},
		{"a road without a length", "", func(a *api.Air) { a.Mine.Roads[2].Length = 0 }, api.ErrRange},
	}
}

// fanFaults are faults of the fans, in the order in which Check finds them.
func fanFaults() []fault {
	good := api.Point{Pressure: 1}
	return []fault{
		{"many fans", "", func(a *api.Air) {
			for range 6 {
				a.Fans = append(a.Fans, fanIn(0, false, good))
			}
		}, api.ErrLimit},
		{"fan 0: the road -1", "road", func(a *api.Air) { a.Fans[0].Road = -1 }, api.ErrRoad},
		{"fan 0: no points", "curve", func(a *api.Air) { a.Fans[0].Curve = nil }, api.ErrLimit},
		{"fan 0: a point out of its range", "curve", func(a *api.Air) { a.Fans[0].Curve = []api.Point{{Pressure: -1}} }, api.ErrRange},
		{"fan 0: two points that are the same", "curve", func(a *api.Air) { a.Fans[0].Curve = []api.Point{good, good} }, api.ErrFan},
		{"fan 0: no such road", "road", func(a *api.Air) { a.Fans[0].Road = 4 }, api.ErrRoad},
		{"fan 1: many points", "", func(a *api.Air) { a.Fans[1].Curve = make([]api.Point, 9) }, api.ErrLimit},
		{"fan 1: no such road", "", func(a *api.Air) { a.Fans[1].Road = 4 }, api.ErrRoad},
		{"fan 2: a point out of its range", "", func(a *api.Air) { a.Fans[2].Curve = []api.Point{{Pressure: -1}} }, api.ErrRange},
	}
}

// doorFaults are faults of the doors, in the order in which Check finds them.
func doorFaults() []fault {
	return []fault{
		{"many doors", "", func(a *api.Air) {
			for range 13 {
				a.Doors = append(a.Doors, doorIn(0, -1, 5, 1))
			}
		}, api.ErrLimit},
		{"door 0: the road -1", "door 0", func(a *api.Air) { a.Doors[0].Road = -1 }, api.ErrRoad},
		{"door 1: one Rest", "", func(a *api.Air) { a.Doors[1].Rests = []int{5} }, api.ErrLimit},
		{"door 2: a Rest out of its range", "", func(a *api.Air) { a.Doors[2].Rests = []int{1<<18 + 1, 0} }, api.ErrRange},
		{"door 3: Rests that rise", "", func(a *api.Air) { a.Doors[3].Rests = []int{5, 6} }, api.ErrDoor},
		{"door 0: no such road", "door 0", func(a *api.Air) { a.Doors[0].Road = 4 }, api.ErrRoad},
		{"door 3: no such road", "", func(a *api.Air) { a.Doors[3].Road = math.MaxInt }, api.ErrRoad},
	}
}

// faults are all faults, in the order in which Check finds them.
func faults() []fault {
	return append(append(mineFaults(), fanFaults()...), doorFaults()...)
}

// P9.1: airs without an error, also at all limits.
func TestCheck(t *testing.T) {
	for _, a := range goodAirs() {
		if code := Check(a); code != api.OK {
			t.Errorf("%+v: %d", a, code)
		}
	}
}

// P9.1: errors, each alone.
func TestCheckErrors(t *testing.T) {
	for _, f := range faults() {
		if code := Check(with(usual(), f.make)); code != f.code {
			t.Errorf("%s: %d, want %d", f.name, code, f.code)
		}
	}
}

// P9.1: the roads of fans and doors are those of the mine.
func TestCheckRoads(t *testing.T) {
	for road := -2; road <= 6; road++ {
		want := api.OK
		if road < 0 || road > 3 {
			want = api.ErrRoad
		}
		for i := range usual().Fans {
			if code := Check(with(usual(), func(a *api.Air) { a.Fans[i].Road = road })); code != want {
				t.Errorf("fan %d in the road %d: %d, want %d", i, road, code, want)
			}
		}
		for i := range usual().Doors {
			if code := Check(with(usual(), func(a *api.Air) { a.Doors[i].Road = road })); code != want {
				t.Errorf("door %d in the road %d: %d, want %d", i, road, code, want)
			}
		}
	}
	noRoads := api.Mine{Places: make([]api.Place, 3)}
	for _, a := range []api.Air{{Mine: noRoads, Fans: usual().Fans[:1]}, {Mine: noRoads, Doors: usual().Doors[1:2]}} {
		if code := Check(a); code != api.ErrRoad {
			t.Errorf("%+v: %d, want %d", a, code, api.ErrRoad)
		}
	}
}

// P9.1: of two errors the earlier one counts.
func TestCheckErrorOrder(t *testing.T) {
	l := faults()
	for i, first := range l {
		for _, second := range l[i+1:] {
			if first.spot != "" && first.spot == second.spot {
				continue
			}
			a := with(with(usual(), second.make), first.make)
			if code := Check(a); code != first.code {
				t.Errorf("%s, and %s: %d, want %d", first.name, second.name, code, first.code)
			}
		}
	}
}

// P9.1: up to 8 fans and 16 doors, and no more.
func TestCheckLimits(t *testing.T) {
	for n := range 20 {
		fans, doors := api.Air{Mine: usual().Mine}, api.Air{Mine: usual().Mine}
		for range n {
			fans.Fans = append(fans.Fans, usual().Fans[0])
			doors.Doors = append(doors.Doors, usual().Doors[1])
		}
		if code := Check(fans); (code == api.OK) != (n <= 8) || n > 8 && code != api.ErrLimit {
			t.Errorf("%d fans: %d", n, code)
		}
		if code := Check(doors); (code == api.OK) != (n <= 16) || n > 16 && code != api.ErrLimit {
			t.Errorf("%d doors: %d", n, code)
		}
	}
}

// wantRight checks what Right answers.
func wantRight(t *testing.T, a api.Air, s api.Setting, want bool) {
	t.Helper()
	if got := Right(a, s); got != want {
		t.Errorf("%+v: %t, want %t", s, got, want)
	}
}

// P9.1: each state of each fan and door, and those that are none.
func TestRight(t *testing.T) {
	for _, state := range []int{math.MinInt, -1 << 32, -3, -2, -1, 0, 1, 2, 3, 4, 5, 6, 1<<32 - 1, 1 << 32, math.MaxInt} {
		for i := range usual().Fans {
			s := still()
			s.Fans[i] = state
			wantRight(t, usual(), s, -1 <= state && state <= 2)
		}
		for i, d := range usual().Doors {
			s := still()
			s.Doors[i] = state
			wantRight(t, usual(), s, -1 <= state && state < len(d.Rests))
		}
		a := largest()
		s := unknown(a)
		s.Doors[15] = state
		wantRight(t, a, s, -1 <= state && state <= 5)
	}
	for _, a := range goodAirs() {
		wantRight(t, a, unknown(a), true)
	}
	wantRight(t, api.Air{}, api.Setting{Fans: []int{}, Doors: []int{}}, true)
}

// oddSettings are settings that do not belong to the usual air.
func oddSettings() []api.Setting {
	return []api.Setting{
		{},
		{Fans: []int{0, 0, 0}},
		{Doors: []int{0, 0, 0, 0}},
		{Fans: []int{0, 0}, Doors: []int{0, 0, 0, 0}},
		{Fans: []int{0, 0, 0, 0}, Doors: []int{0, 0, 0, 0}},
		{Fans: []int{0, 0, 0}, Doors: []int{0, 0, 0}},
		{Fans: []int{0, 0, 0}, Doors: []int{0, 0, 0, 0, 0}},
		{Fans: []int{0, 0, 0, 0}, Doors: []int{0, 0, 0}},
		{Fans: []int{0, -2, 0}, Doors: []int{0, 0, 0, 0}},
		{Fans: []int{0, 0, 3}, Doors: []int{0, 0, 0, 0}},
		{Fans: []int{0, 0, 0}, Doors: []int{0, 0, 0, 2}},
		{Fans: []int{0, 0, 0}, Doors: []int{-2, 0, 0, 0}},
	}
}

// P9.1: nothing is right for settings of other lengths, or for an air with an error.
func TestNotRight(t *testing.T) {
	for _, s := range oddSettings() {
		wantRight(t, usual(), s, false)
	}
	for _, f := range faults() {
		a := with(usual(), f.make)
		wantRight(t, a, unknown(a), false)
		wantRight(t, a, still(), false)
	}
}

// behind returns a list with elements behind its end.
func behind[T any](l []T, more ...T) []T {
	return append(append(make([]T, 0, len(l)+len(more)), l...), more...)[:len(l)]
}

// padded returns an air with things behind the ends of its lists that would be errors.
func padded() api.Air {
	a := usual()
	a.Mine.Places = behind(a.Mine.Places, api.Place{Height: math.MaxInt})
	a.Mine.Roads = behind(a.Mine.Roads, api.Road{From: -1})
	for i, f := range a.Fans {
		a.Fans[i].Curve = behind(f.Curve, api.Point{Pressure: -1})
	}
	a.Fans = behind(a.Fans, api.Fan{Road: 1})
	for i, d := range a.Doors {
		a.Doors[i].Rests = behind(d.Rests, -1, -2)
	}
	a.Doors = behind(a.Doors, api.Door{Road: 1})
	return a
}

// whole returns an air with its lists up to their capacities.
func whole(a api.Air) api.Air {
	a.Mine.Places, a.Mine.Roads = a.Mine.Places[:cap(a.Mine.Places)], a.Mine.Roads[:cap(a.Mine.Roads)]
	fans, doors := append([]api.Fan{}, a.Fans[:cap(a.Fans)]...), append([]api.Door{}, a.Doors[:cap(a.Doors)]...)
	for i, f := range fans {
		fans[i].Curve = f.Curve[:cap(f.Curve)]
	}
	for i, d := range doors {
		doors[i].Rests = d.Rests[:cap(d.Rests)]
	}
	a.Fans, a.Doors = fans, doors
	return a
}

// R2: arguments stay as they are, and what lies behind their ends neither counts nor changes.
func TestArgumentsStay(t *testing.T) {
	a := padded()
	s := api.Setting{Fans: behind([]int{1, -1, 2}, 9, 9), Doors: behind([]int{1, -1, 0, 0}, 9, 9)}
	x := api.State{Pressures: behind([]int{0, 0, 0, 0}, 9), Flows: behind([]int{0, 0, 0, 0}, 9)}
	same := api.Setting{Fans: []int{1, -1, 2}, Doors: []int{1, -1, 0, 0}}
	for road := -1; road <= 4; road++ {
		for n := -300; n <= 300; n += 7 {
			if got, want := Drop(a, s, road, n), Drop(usual(), same, road, n); got != want {
				t.Errorf("drop of %d at %d: %v, want %v", road, n, got, want)
			}
			if got, want := Flow(a, s, road, n), Flow(usual(), same, road, n); got != want {
				t.Errorf("flow of %d at %d: %v, want %v", road, n, got, want)
			}
		}
	}
	if Check(a) != api.OK || !Right(a, s) {
		t.Errorf("%d and %t", Check(a), Right(a, s))
	}
	if got, want := Fits(a, s, x), Fits(usual(), same, api.State{Pressures: make([]int, 4), Flows: make([]int, 4)}); got != want {
		t.Errorf("fits: %d, want %d", got, want)
	}
	if !reflect.DeepEqual(whole(a), whole(padded())) {
		t.Errorf("the air is %+v", whole(a))
	}
	for _, l := range [][]int{s.Fans[:5], s.Doors[:6], x.Pressures[:5], x.Flows[:5]} {
		if l[len(l)-1] != 9 {
			t.Errorf("a list is %v", l)
		}
	}
	if !reflect.DeepEqual(s, same) {
		t.Errorf("the setting is %v", s)
	}
}
