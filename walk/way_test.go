package walk

import (
	"cmp"
	"math"
	"slices"
	"testing"

	"minecontrol/api"
)

// P3.3: the best way; of several the one with the fewest roads, and of these the first one.
func TestWay(t *testing.T) {
	level := func(places int, roads ...api.Road) api.Mine {
		return api.Mine{Places: make([]api.Place, places), Roads: roads}
	}
	slope := api.Mine{Places: []api.Place{{}, {Height: 20}}, Roads: []api.Road{testRoad(0, 1, 120)}}
	l := []struct {
		name     string
		m        api.Mine
		from, to int
		roads    []int
		time     int
	}{
		{"along the roads", ring(), 0, 2, []int{0, 1}, 300},
		{"against the roads", ring(), 2, 0, []int{1, 0}, 300},
		{"three roads", ring(), 3, 0, []int{3, 1, 0}, 350},
		{"one road", ring(), 1, 0, []int{0}, 100},
		{"to itself", ring(), 2, 2, nil, 0},
		{"to itself where nothing leads", level(1), 0, 0, nil, 0},
		{"up", slope, 0, 1, []int{0}, 200},
		{"down", slope, 1, 0, []int{0}, 134},
		{"round about is quicker", changed(func(m *api.Mine) { m.Roads[4].Closed = false }), 2, 0, []int{3, 4, 0}, 160},
		{"not by a closed road", changed(func(m *api.Mine) { m.Roads[0].Closed = true }), 0, 1, []int{2, 1}, 700},
		{"not by a road without walking", changed(func(m *api.Mine) { m.Roads[0].Walk = false }), 0, 1, []int{2, 1}, 700},
		{"the fewest roads", level(3, testRoad(0, 1, 120), testRoad(1, 2, 120), testRoad(0, 2, 240)), 0, 2, []int{2}, 200},
		{"the fewest roads, back", level(3, testRoad(0, 1, 120), testRoad(1, 2, 120), testRoad(0, 2, 240)), 2, 0, []int{2}, 200},
		{"time before roads", level(3, testRoad(0, 1, 120), testRoad(1, 2, 108), testRoad(0, 2, 240)), 0, 2, []int{0, 1}, 190},
		{"the first of two roads", level(2, testRoad(0, 1, 120), testRoad(1, 0, 120)), 0, 1, []int{0}, 100},
		{"the first of two roads, back", level(2, testRoad(0, 1, 120), testRoad(1, 0, 120)), 1, 0, []int{0}, 100},
		{"the first road decides", level(4, testRoad(2, 3, 12), testRoad(0, 1, 12), testRoad(0, 2, 12), testRoad(1, 3, 12)), 0, 3, []int{1, 3}, 20},
		{"the first road decides, back", level(4, testRoad(2, 3, 12), testRoad(0, 1, 12), testRoad(0, 2, 12), testRoad(1, 3, 12)), 3, 0, []int{0, 2}, 20},
		{"the second road decides", level(3, testRoad(0, 1, 12), testRoad(1, 2, 12), testRoad(2, 1, 12)), 0, 2, []int{0, 1}, 20},
	}
	for _, x := range l {
		roads, time, ok := Way(x.m, x.from, x.to)
		if !slices.Equal(roads, x.roads) || time != x.time || !ok {
			t.Errorf("%s: %v in %d, %t, want %v in %d", x.name, roads, time, ok, x.roads, x.time)
		}
	}
}

// P3.3: nothing, 0 and false.
func TestNoWay(t *testing.T) {
	l := []struct {
		name     string
		m        api.Mine
		from, to int
	}{
		{"cut off", changed(func(m *api.Mine) { m.Roads[3].Closed = true }), 0, 3},
		{"cut off, back", changed(func(m *api.Mine) { m.Roads[3].Walk = false }), 3, 0},
		{"from place -1", ring(), -1, 0},
		{"to place -1", ring(), 0, -1},
		{"from behind the last place", ring(), 4, 0},
		{"to behind the last place", ring(), 0, 4},
		{"far", ring(), math.MinInt, math.MaxInt},
		{"no such place to itself", ring(), 4, 4},
		{"no place to itself", ring(), -1, -1},
		{"no mine", changed(func(m *api.Mine) { m.Roads[4].Area = 0 }), 0, 2},
		{"no mine, to itself", changed(func(m *api.Mine) { m.Roads[4].Area = 0 }), 2, 2},
		{"nothing", api.Mine{}, 0, 0},
	}
	for _, x := range l {
		if roads, time, ok := Way(x.m, x.from, x.to); len(roads) != 0 || time != 0 || ok {
			t.Errorf("%s: %v in %d, %t", x.name, roads, time, ok)
		}
	}
}

// better compares two ways: by their times, by how many roads they have, and by their first roads that differ.
func better(a, b way) int {
	return cmp.Or(cmp.Compare(a.time, b.time), cmp.Compare(len(a.roads), len(b.roads)), slices.Compare(a.roads, b.roads))
}

// P3.3: Way is the best of all ways, in many made mines; its time is the sum of the times of its roads.
func TestWayOfAllWays(t *testing.T) {
	s := maker(5)
	for range 300 {
		m := madeMine(&s)
		for from := range m.Places {
			for to, ways := range waysFrom(m, from) {
				roads, time, ok := Way(m, from, to)
				if len(ways) == 0 {
					if len(roads) != 0 || time != 0 || ok {
						t.Fatalf("%v: %v in %d from %d to %d", m, roads, time, from, to)
					}
					continue
				}
				if want := slices.MinFunc(ways, better); !slices.Equal(roads, want.roads) || time != want.time || !ok {
					t.Fatalf("%v: %v in %d, %t from %d to %d, want %v in %d", m, roads, time, ok, from, to, want.roads, want.time)
				}
			}
		}
	}
}
