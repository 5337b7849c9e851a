package airflow_test

import (
	"math"
	"reflect"
	"testing"

	"minecontrol/airflow"
	"minecontrol/api"
	"minecontrol/branch"
)

// fault is a change that gives an error to an air or a setting.
type fault struct {
	name string
	make func(a *api.Air, s *api.Setting)
	code api.Errno
}

// airFaults are faults of the air, in the order in which branch.Check finds them. Some have the code that relax.Solve has when it comes to its limit.
func airFaults() []fault {
	return []fault{
		{"many places", func(a *api.Air, s *api.Setting) { a.Mine.Places = append(a.Mine.Places, make([]api.Place, 58)...) }, api.ErrLimit},
		{"many roads", func(a *api.Air, s *api.Setting) { a.Mine.Roads = append(a.Mine.Roads, make([]api.Road, 120)...) }, api.ErrLimit},
		{"a height", func(a *api.Air, s *api.Setting) { a.Mine.Places[4].Height = 10001 }, api.ErrRange},
		{"a road to itself", func(a *api.Air, s *api.Setting) { a.Mine.Roads[5].To = 3 }, api.ErrRoad},
		{"a closed road without a length", func(a *api.Air, s *api.Setting) { a.Mine.Roads[8].Length = 0 }, api.ErrRange},
		{"many fans", func(a *api.Air, s *api.Setting) { a.Fans = append(a.Fans, make([]api.Fan, 7)...) }, api.ErrLimit},
		{"a fan without points", func(a *api.Air, s *api.Setting) { a.Fans[0].Curve = nil }, api.ErrLimit},
		{"a fan with many points", func(a *api.Air, s *api.Setting) { a.Fans[0].Curve = make([]api.Point, 9) }, api.ErrLimit},
		{"a fan whose points are the same", func(a *api.Air, s *api.Setting) { a.Fans[0].Curve = make([]api.Point, 2) }, api.ErrFan},
		{"a fan in no road", func(a *api.Air, s *api.Setting) { a.Fans[1].Road = 9 }, api.ErrRoad},
		{"many doors", func(a *api.Air, s *api.Setting) { a.Doors = append(a.Doors, make([]api.Door, 13)...) }, api.ErrLimit},
		{"a door with one state", func(a *api.Air, s *api.Setting) { a.Doors[0].Rests = []int{1} }, api.ErrLimit},
		{"a door with many states", func(a *api.Air, s *api.Setting) { a.Doors[0].Rests = []int{7, 6, 5, 4, 3, 2, 1} }, api.ErrLimit},
		{"a door with the door of another one", func(a *api.Air, s *api.Setting) { a.Doors[1].Other = 0 }, api.ErrDoor},
		{"a door in no road", func(a *api.Air, s *api.Setting) { a.Doors[3].Road = 9 }, api.ErrRoad},
	}
}

// settingFaults are faults of the setting.
func settingFaults() []fault {
	var l []fault
	for _, s := range []api.Setting{
		{},
		{Fans: []int{1, -1}},
		{Doors: []int{1, 2, 0, -1}},
		{Fans: []int{1}, Doors: []int{1, 2, 0, -1}},
		{Fans: []int{1, -1, 0}, Doors: []int{1, 2, 0, -1}},
		{Fans: []int{1, -1}, Doors: []int{1, 2, 0}},
		{Fans: []int{1, -1}, Doors: []int{1, 2, 0, -1, 0}},
		{Fans: []int{3, -1}, Doors: []int{1, 2, 0, -1}},
		{Fans: []int{1, -2}, Doors: []int{1, 2, 0, -1}},
		{Fans: []int{1, -1}, Doors: []int{2, 2, 0, -1}},
		{Fans: []int{1, -1}, Doors: []int{1, 3, 0, -1}},
		{Fans: []int{1, math.MaxInt}, Doors: []int{1, 2, 0, math.MinInt}},
	} {
		l = append(l, fault{"a setting", func(_ *api.Air, other *api.Setting) { *other = s }, api.ErrSetting})
	}
	return l
}

// wantFault checks that Analyse finds an error in the usual air and setting with some faults.
func wantFault(t *testing.T, want api.Errno, l ...fault) {
	t.Helper()
	a, s := usual()
	name := ""
	for _, f := range l {
		f.make(&a, &s)
		name += f.name + "; "
	}
	wantAnalyse(t, name, a, s, nil, want)
}

// P13.1: the errors of branch.Check, as it finds them, also those with the code of a limit; ahead of them that of a setting does not count.
func TestAnalyseOfFaultyAir(t *testing.T) {
	for _, f := range airFaults() {
		a, s := usual()
		f.make(&a, &s)
		if code := branch.Check(a); code != f.code {
			t.Errorf("%s: branch.Check answers %d", f.name, code)
		}
		wantFault(t, f.code, f)
		for _, second := range settingFaults() {
			wantFault(t, f.code, second, f)
		}
	}
	l := airFaults()
	for i := range l[1:] {
		wantFault(t, l[i].code, l[i+1], l[i])
	}
}

// P13.1: settings that do not belong to the air.
func TestAnalyseOfFaultySetting(t *testing.T) {
	for _, f := range settingFaults() {
		wantFault(t, api.ErrSetting, f)
	}
	wantAnalyse(t, "a state without a fan", airOf(1), fansOf(0), nil, api.ErrSetting)
	wantAnalyse(t, "a state without a door", api.Air{}, api.Setting{Doors: []int{0}}, nil, api.ErrSetting)
	wantAnalyse(t, "many rounds, too", slow(200), fansOf(1), nil, api.ErrSetting)
}

// P13.1, R9: an air with as much of everything as is permitted; every eighth place of a double ring is of the surface.
func TestAnalyseLargest(t *testing.T) {
	var a api.Air
	var s api.Setting
	for i := range api.MaxPlaces {
		a.Mine.Places = append(a.Mine.Places, api.Place{Height: -api.MaxHeight, Surface: i%8 == 0})
	}
	for i := range api.MaxRoads {
		a.Mine.Roads = append(a.Mine.Roads, roadOf((i+1)%64, i%64, exactly(1<<17+i), exactly(0)))
	}
	for i := range api.MaxFans {
		curve := make([]api.Point, api.MaxPoints)
		for j := range curve {
			curve[j] = api.Point{Flow: j, Pressure: 8 - j}
		}
		a.Fans = append(a.Fans, api.Fan{Road: i * 16, Back: i%2 == 0, Curve: curve})
		s.Fans = append(s.Fans, -1)
	}
	for i := range api.MaxDoors {
		a.Doors = append(a.Doors, api.Door{Road: i, Other: i ^ 1, Rests: []int{5, 4, 3, 2, 1, 0}})
		s.Doors = append(s.Doors, -1)
	}
	flows, code := airflow.Analyse(a, s)
	if code != api.OK || len(flows) != api.MaxRoads {
		t.Fatalf("%v and %d", flows, code)
	}
	for road, f := range flows {
		// At a pressure of 8 or less, and with a resistance of more than 2^17, nothing of a whole litre flows.
		if f.Low < -1 || f.Low > 0 || f.High < 0 || f.High > 1 {
			t.Errorf("the road %d: %v", road, f)
		}
	}
}

// padded returns the usual air and setting with things behind the ends of all lists.
func padded() (api.Air, api.Setting) {
	a, s := usual()
	a.Mine.Places = behind(a.Mine.Places, api.Place{Height: math.MaxInt})
	a.Mine.Roads = behind(a.Mine.Roads, plain(1, 0, 1), api.Road{From: -1})
	for i, f := range a.Fans {
		a.Fans[i].Curve = behind(f.Curve, api.Point{Pressure: -1})
	}
	a.Fans = behind(a.Fans, api.Fan{Road: 1})
	for i, d := range a.Doors {
		a.Doors[i].Rests = behind(d.Rests, -1, -2)
	}
	a.Doors = behind(a.Doors, api.Door{Road: 1})
	return a, api.Setting{Fans: behind(s.Fans, 9), Doors: behind(s.Doors, 9)}
}

// whole returns copies of all that lists have, up to their capacities.
func whole(a api.Air, s api.Setting) []any {
	l := []any{full(a.Mine.Places), full(a.Mine.Roads), full(a.Fans), full(a.Doors), full(s.Fans), full(s.Doors)}
	for _, f := range a.Fans {
		l = append(l, full(f.Curve))
	}
	for _, d := range a.Doors {
		l = append(l, full(d.Rests))
	}
	return l
}

// R2: the air and the setting stay as they are, what lies behind the ends of lists does not count, and the same arguments have the same result.
func TestAnalyseLeavesArguments(t *testing.T) {
	usualAir, usualSetting := usual()
	want, _ := airflow.Analyse(usualAir, usualSetting)
	a, s := padded()
	before := whole(a, s)
	for range 2 {
		got, code := airflow.Analyse(a, s)
		if code != api.OK || len(got) != 9 || !same(got, want) {
			t.Fatalf("%v and %d, want %v", got, code, want)
		}
		for i := range got {
			got[i] = spanOf(7, 7)
		}
	}
	if !reflect.DeepEqual(whole(a, s), before) {
		t.Error("arguments have changed")
	}
}
