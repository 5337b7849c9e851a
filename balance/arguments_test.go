package balance_test

import (
	"math"
	"reflect"
	"testing"

	"minecontrol/api"
	"minecontrol/balance"
)

// usualPressures are pressures of the usual air.
func usualPressures() []int { return []int{0, 20, -30, 0, 9} }

// wantNothing checks that all functions answer zero values.
func wantNothing(t *testing.T, name string, a api.Air, s api.Setting, pressures []int, place int) {
	t.Helper()
	net := balance.Net(a, s, pressures, place)
	least, up := balance.Least(a, s, pressures, place)
	greatest, down := balance.Greatest(a, s, pressures, place)
	if net != (api.Span{}) || least != 0 || up || greatest != 0 || down {
		t.Errorf("%s: pressures %v, place %d: %v, %d, %t, %d, %t", name, pressures, place, net, least, up, greatest, down)
	}
}

// wantSomething checks that the searches answer a pressure; what is not zero for one place shows that the arguments are not at fault.
func wantSomething(t *testing.T, name string, a api.Air, s api.Setting, pressures []int, place int) {
	t.Helper()
	least, up := balance.Least(a, s, pressures, place)
	greatest, down := balance.Greatest(a, s, pressures, place)
	if !up || !down || least < pressures[place] || greatest > pressures[place] {
		t.Errorf("%s: pressures %v, place %d: %d, %t, %d, %t", name, pressures, place, least, up, greatest, down)
	}
}

// P10.1, P10.2: places that there are, and those that there are not.
func TestNoSuchPlace(t *testing.T) {
	for place := range usualPressures() {
		wantSomething(t, "a place", usual(), usualSetting(), usualPressures(), place)
	}
	for _, place := range []int{-1, -2, 5, 6, 64, 1 << 32, 1<<32 + 1, -1 << 32, math.MaxInt, math.MinInt} {
		wantNothing(t, "no such place", usual(), usualSetting(), usualPressures(), place)
		wantNothing(t, "no places", api.Air{}, api.Setting{}, nil, place)
	}
	wantNothing(t, "no places", api.Air{}, api.Setting{}, nil, 0)
}

// P10.1, P10.2: a pressure for each place, and no more.
func TestPressuresForPlaces(t *testing.T) {
	for n := range 9 {
		l := make([]int, n)
		for place := range 5 {
			if n == 5 {
				wantSomething(t, "5 pressures", usual(), usualSetting(), l, place)
			} else {
				wantNothing(t, "another number of pressures", usual(), usualSetting(), l, place)
			}
		}
	}
	wantNothing(t, "no pressures", usual(), usualSetting(), nil, 1)
	wantNothing(t, "a pressure too many", airOf(2, plain(0, 1, 1)), api.Setting{}, []int{0, 5, 0}, 1)
	wantNothing(t, "a pressure without a place", api.Air{}, api.Setting{}, []int{7}, 0)
}

// P10.1, P10.2: each pressure is in its range, also that of a place that has no road to this one.
func TestPressuresInRange(t *testing.T) {
	for _, pressure := range []int{-1 << 46, -1<<46 + 1, 0, 1<<46 - 1, 1 << 46} {
		for other := range usualPressures() {
			for place := range usualPressures() {
				l := moved(usualPressures(), other, pressure)
				if net := balance.Net(usual(), usualSetting(), l, place); net != netOf(made{usual(), usualSetting(), l, 1}, place) {
					t.Errorf("pressures %v, place %d: %v", l, place, net)
				}
			}
		}
		a := airOf(3, plain(0, 1, 1))
		wantSomething(t, "a place apart", a, api.Setting{}, []int{0, 5, pressure}, 1)
		wantSomething(t, "a place apart", a, api.Setting{}, []int{0, 5, pressure}, 2)
	}
	for _, pressure := range []int{-1<<46 - 1, 1<<46 + 1, -1 << 47, 1 << 47, -1 << 50, 1 << 50, math.MinInt, math.MinInt + 1, math.MaxInt} {
		for other := range usualPressures() {
			for place := range usualPressures() {
				wantNothing(t, "a pressure out of range", usual(), usualSetting(), moved(usualPressures(), other, pressure), place)
			}
		}
	}
}

// P10.1, P10.2: the setting belongs to the air.
func TestSettingNotRight(t *testing.T) {
	l := []api.Setting{
		{},
		{Fans: []int{1, -1}},
		{Doors: []int{1, 2, 0, -1}},
		{Fans: []int{1}, Doors: []int{1, 2, 0, -1}},
		{Fans: []int{1, -1, 0}, Doors: []int{1, 2, 0, -1}},
		{Fans: []int{1, -1}, Doors: []int{1, 2, 0}},
		{Fans: []int{1, -1}, Doors: []int{1, 2, 0, -1, 0}},
		{Fans: []int{3, -1}, Doors: []int{1, 2, 0, -1}},
		{Fans: []int{1, -2}, Doors: []int{1, 2, 0, -1}},
		{Fans: []int{1, -1}, Doors: []int{2, 2, 0, -1}},
		{Fans: []int{1, -1}, Doors: []int{1, 3, 0, -1}},
		{Fans: []int{1, -1}, Doors: []int{1, 2, 0, -2}},
	}
	for _, s := range l {
		for place := range usualPressures() {
			wantNothing(t, "a setting that is not right", usual(), s, usualPressures(), place)
		}
	}
	wantNothing(t, "a state without a fan", airOf(2, plain(0, 1, 1)), api.Setting{Fans: []int{0}}, []int{0, 5}, 1)
}

// P10.1, P10.2: the air has no error, also where it does not touch the place.
func TestAirNotRight(t *testing.T) {
	l := []struct {
		name   string
		change func(a *api.Air)
	}{
		{"a height", func(a *api.Air) { a.Mine.Places[4].Height = 10001 }},
		{"a road to nowhere", func(a *api.Air) { a.Mine.Roads[5].To = 5 }},
		{"a road to itself", func(a *api.Air) { a.Mine.Roads[5].To = 3 }},
		{"a closed road without a length", func(a *api.Air) { a.Mine.Roads[3].Length = 0 }},
		{"a road without a resistance", func(a *api.Air) { a.Mine.Roads[0].Rest.Low = 0 }},
		{"a lift that is no span", func(a *api.Air) { a.Mine.Roads[1].Lift = spanOf(1, 0) }},
		{"a fan in no road", func(a *api.Air) { a.Fans[1].Road = 6 }},
		{"a fan without points", func(a *api.Air) { a.Fans[0].Curve = nil }},
		{"a door in no road", func(a *api.Air) { a.Doors[3].Road = 6 }},
		{"a door with the door of another one", func(a *api.Air) { a.Doors[1].Other = 0 }},
		{"a door with Rests that rise", func(a *api.Air) { a.Doors[2].Rests = []int{0, 8} }},
	}
	for _, x := range l {
		for place := range usualPressures() {
			wantNothing(t, x.name, with(usual(), x.change), usualSetting(), usualPressures(), place)
		}
	}
	// A part more of the mine, with as many pressures, is too much.
	a := usual()
	a.Mine.Places = append(a.Mine.Places, make([]api.Place, 60)...)
	wantNothing(t, "many places", a, usualSetting(), make([]int, 65), 1)
}

// behind returns a list with elements behind its end.
func behind[T any](l []T, more ...T) []T {
	return append(append(make([]T, 0, len(l)+len(more)), l...), more...)[:len(l)]
}

// padded returns the usual air with things behind the ends of its lists.
func padded() api.Air {
	a := usual()
	a.Mine.Places = behind(a.Mine.Places, api.Place{Height: math.MaxInt})
	a.Mine.Roads = behind(a.Mine.Roads, plain(1, 0, 1), api.Road{From: -1})
	for i, f := range a.Fans {
		a.Fans[i].Curve = behind(f.Curve, api.Point{Pressure: -1})
	}
	a.Fans = behind(a.Fans, api.Fan{Road: 1})
	for i, d := range a.Doors {
		a.Doors[i].Rests = behind(d.Rests, -1, -2)
	}
	a.Doors = behind(a.Doors, api.Door{Road: 1})
	return a
}

// whole returns copies of all that lists have, up to their capacities.
func whole(a api.Air, s api.Setting, pressures []int) []any {
	l := []any{full(a.Mine.Places), full(a.Mine.Roads), full(a.Fans), full(a.Doors), full(s.Fans), full(s.Doors), full(pressures)}
	for _, f := range a.Fans {
		l = append(l, full(f.Curve))
	}
	for _, d := range a.Doors {
		l = append(l, full(d.Rests))
	}
	return l
}

// full returns a copy of a list up to its capacity.
func full[T any](l []T) []T { return append([]T{}, l[:cap(l)]...) }

// R2: arguments stay as they are, and what lies behind their ends neither counts nor changes.
func TestArgumentsStay(t *testing.T) {
	a, pressures := padded(), behind(usualPressures(), 1<<60, 1<<60)
	s := api.Setting{Fans: behind(usualSetting().Fans, 9, 9), Doors: behind(usualSetting().Doors, 9, 9)}
	before := whole(a, s, pressures)
	for place := range pressures {
		wantNet(t, a, s, pressures, place, balance.Net(usual(), usualSetting(), usualPressures(), place))
		least, up := balance.Least(usual(), usualSetting(), usualPressures(), place)
		wantLeast(t, a, s, pressures, place, least, up)
		greatest, down := balance.Greatest(usual(), usualSetting(), usualPressures(), place)
		wantGreatest(t, a, s, pressures, place, greatest, down)
	}
	if !reflect.DeepEqual(whole(a, s, pressures), before) {
		t.Error("arguments have changed")
	}
}
