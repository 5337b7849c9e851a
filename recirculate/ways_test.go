package recirculate_test

import (
	"math"
	"slices"
	"testing"

	"minecontrol/api"
	"minecontrol/recirculate"
)

// P14.1: the directions of one road, by the ends of its span, each on its own.
func TestWaysOfARoad(t *testing.T) {
	m := mineOf(3, [2]int{2, 1})
	forth, back := [2]int{2, 1}, [2]int{1, 2}
	for _, x := range []struct {
		flow api.Span
		want [][2]int
	}{
		{spanOf(5, 9), [][2]int{forth}},
		{spanOf(1, 1), [][2]int{forth}},
		{spanOf(0, 1), [][2]int{forth}},
		{spanOf(0, 0), nil},
		{spanOf(-1, 0), [][2]int{back}},
		{spanOf(-1, -1), [][2]int{back}},
		{spanOf(-9, -5), [][2]int{back}},
		{spanOf(-1, 1), [][2]int{forth, back}},
		{spanOf(-api.Unbounded, api.Unbounded), [][2]int{forth, back}},
		{spanOf(math.MinInt, math.MaxInt), [][2]int{forth, back}},
		// Low is greater than High: what is asked of each of both still decides.
		{spanOf(2, 1), [][2]int{forth}},
		{spanOf(1, 0), nil},
		{spanOf(1, -1), nil},
		{spanOf(0, -1), nil},
		{spanOf(-1, -2), [][2]int{back}},
		{spanOf(math.MaxInt, math.MinInt), nil},
	} {
		if got := recirculate.Ways(m, flowsOf(x.flow)); !slices.Equal(got, x.want) {
			t.Errorf("%v: %v, want %v", x.flow, got, x.want)
		}
	}
}

// P14.1: in the order of the roads, also of those to and from the surface and between places of the surface, and equal pairs for each road again; nothing for closed roads.
func TestWays(t *testing.T) {
	m := mineOf(4, [2]int{3, 2}, [2]int{0, 1}, [2]int{1, 2}, [2]int{1, 2}, [2]int{2, 1}, [2]int{1, 0}, [2]int{0, 3}, [2]int{1, 2})
	m = surfacing(closing(m, 3), 3)
	flows := flowsOf(along, both, against, both, both, still, both, along)
	want := [][2]int{{3, 2}, {0, 1}, {1, 0}, {2, 1}, {2, 1}, {1, 2}, {0, 3}, {3, 0}, {1, 2}}
	if got := recirculate.Ways(m, flows); !slices.Equal(got, want) {
		t.Errorf("%v, want %v", got, want)
	}
	if got := recirculate.Ways(closing(m, 0, 1, 2, 4, 5, 6, 7), flows); len(got) != 0 {
		t.Errorf("all closed: %v", got)
	}
}

// P14.1 to P14.4: mines without roads, and without places.
func TestOfLittle(t *testing.T) {
	check(t, "nothing", api.Mine{}, nil, want{})
	check(t, "empty lists", api.Mine{Places: []api.Place{}, Roads: []api.Road{}}, flowsOf(), want{})
	check(t, "a place", mineOf(1), nil, want{})
	check(t, "places", mineOf(7), flowsOf(), want{})
}

// P14.1 to P14.4: nothing if there is not a flow for each road.
func TestOfOtherFlows(t *testing.T) {
	m, flows := circled()
	for n := range flows {
		check(t, "too few flows", m, flows[:n], want{})
	}
	check(t, "too many flows", m, append(slices.Clone(flows), still), want{})
	check(t, "flows without roads", mineOf(3), flowsOf(both), want{})
	check(t, "flows of no mine", api.Mine{}, flowsOf(both), want{})
}

// P14.1 to P14.4: nothing if the mine is not valid.
func TestOfInvalidMines(t *testing.T) {
	for name, change := range map[string]func(m *api.Mine){
		"many places":         func(m *api.Mine) { m.Places = append(m.Places, make([]api.Place, api.MaxPlaces-9)...) },
		"a height":            func(m *api.Mine) { m.Places[5].Height = api.MaxHeight + 1 },
		"a height of surface": func(m *api.Mine) { m.Places[0].Height = math.MinInt },
		"a road from nowhere": func(m *api.Mine) { m.Roads[1].From = -1 },
		"a road to nowhere":   func(m *api.Mine) { m.Roads[10].To = 10 },
		"a road far":          func(m *api.Mine) { m.Roads[4].To = math.MaxInt },
		"a road to itself":    func(m *api.Mine) { m.Roads[2].To = 3 },
		"no length":           func(m *api.Mine) { m.Roads[0].Length = 0 },
		"no area":             func(m *api.Mine) { m.Roads[9].Area = 0 },
		"a rest":              func(m *api.Mine) { m.Roads[3].Rest = spanOf(0, 1) },
		"a lift":              func(m *api.Mine) { m.Roads[6].Lift = spanOf(1, 0) },
		"a closed road":       func(m *api.Mine) { m.Roads[7].Closed, m.Roads[7].From = true, 99 },
	} {
		m, flows := circled()
		change(&m)
		check(t, name, m, flows, want{})
	}
	m, flows := circled()
	for len(m.Roads) <= api.MaxRoads {
		m.Roads, flows = append(m.Roads, roadOf(1, 2)), append(flows, both)
	}
	check(t, "many roads", m, flows, want{})
}

// R2: arguments stay as they are, what lies behind the ends of lists does not count, and the answers are the same again.
func TestArgumentsStay(t *testing.T) {
	behind := func(m api.Mine, flows []api.Span) (api.Air, []api.Span) {
		return api.Air{
			Mine: api.Mine{Places: append(m.Places, api.Place{Height: math.MaxInt}), Roads: append(m.Roads, roadOf(8, 7), api.Road{From: -1})},
			Fans: []api.Fan{auxiliary(9), {Road: 1}, auxiliary(4), auxiliary(2), auxiliary(1)},
		}, append(flows, both, both)
	}
	a, flows := behind(circled())
	before, flowsBefore := behind(circled())
	cut := api.Air{Mine: api.Mine{Places: a.Mine.Places[:10], Roads: a.Mine.Roads[:11]}, Fans: a.Fans[:4]}
	for range 3 {
		check(t, "with more behind", cut.Mine, flows[:11], circledWant())
		checkThrough(t, "with more behind", cut, flows[:11], []int{0, 3})
	}
	if !slices.Equal(a.Mine.Places, before.Mine.Places) || !slices.Equal(a.Mine.Roads, before.Mine.Roads) || !slices.Equal(flows, flowsBefore) {
		t.Error("the mine or the flows have changed")
	}
	for i, f := range a.Fans {
		if g := before.Fans[i]; f.Road != g.Road || f.Auxiliary != g.Auxiliary || f.Curve != nil {
			t.Errorf("the fan %d has changed", i)
		}
	}
}
