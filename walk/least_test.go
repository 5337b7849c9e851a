package walk

import (
	"math"
	"slices"
	"testing"

	"minecontrol/api"
	"minecontrol/plan"
)

const never = api.Never

// ring has level roads 0-1 (100 s), 1-2 (200 s), 2-0 (500 s), 3-2 (50 s), and one 1-3 (10 s) that is closed.
func ring() api.Mine {
	m := api.Mine{
		Places: make([]api.Place, 4),
		Roads:  []api.Road{testRoad(0, 1, 120), testRoad(1, 2, 240), testRoad(2, 0, 600), testRoad(3, 2, 60), testRoad(1, 3, 12)},
	}
	m.Roads[4].Closed = true
	return m
}

// changed returns the ring with a change.
func changed(change func(m *api.Mine)) api.Mine {
	m := ring()
	change(&m)
	return m
}

type leastCase struct {
	name string
	m    api.Mine
	from []int
	want []int
}

// P3.2: least times.
func TestLeast(t *testing.T) {
	slope := api.Mine{Places: []api.Place{{}, {Height: 20}}, Roads: []api.Road{testRoad(0, 1, 120)}}
	l := []leastCase{
		{"from one place", ring(), []int{0, never, never, never}, []int{0, 100, 300, 350}},
		{"against the roads", ring(), []int{never, never, never, 0}, []int{350, 250, 50, 0}},
		{"with a time", ring(), []int{never, 7, never, never}, []int{107, 7, 207, 257}},
		{"from two places", ring(), []int{0, never, never, 10}, []int{0, 100, 60, 10}},
		{"its own time is not the least", ring(), []int{0, 101, 300, 350}, []int{0, 100, 300, 350}},
		{"all at once", ring(), []int{0, 0, 0, 0}, []int{0, 0, 0, 0}},
		{"from nowhere", ring(), []int{never, never, never, never}, []int{never, never, never, never}},
		{"opened", changed(func(m *api.Mine) { m.Roads[4].Closed = false }), []int{0, never, never, never}, []int{0, 100, 160, 110}},
		{"a road not for walking", changed(func(m *api.Mine) { m.Roads[0].Walk = false }), []int{0, never, never, never}, []int{0, 700, 500, 550}},
		{"cut off", changed(func(m *api.Mine) { m.Roads[3].Closed = true }), []int{0, never, never, never}, []int{0, 100, 300, never}},
		{"up", slope, []int{0, never}, []int{0, 200}},
		{"down", slope, []int{never, 0}, []int{134, 0}},
		{"a road that ends just before never", ring(), []int{never - 101, never, never, never}, []int{never - 101, never - 1, never, never}},
		{"a road that ends at never", ring(), []int{never - 100, never, never, never}, []int{never - 100, never, never, never}},
		{"a road that ends behind never", ring(), []int{never - 1, never, never, never}, []int{never - 1, never, never, never}},
		{"no places", api.Mine{}, nil, nil},
		{"one place", api.Mine{Places: make([]api.Place, 1)}, []int{5}, []int{5}},
	}
	for _, x := range l {
		if got := Least(x.m, x.from); !slices.Equal(got, x.want) {
			t.Errorf("%s: %v, want %v", x.name, got, x.want)
		}
	}
}

// P3.2: Least and Within return nothing for what is not a mine or are no times.
func TestNoLeast(t *testing.T) {
	good := []int{0, never, never, never}
	l := []leastCase{
		{"no mine", changed(func(m *api.Mine) { m.Roads[4].Length = 0 }), good, nil},
		{"a road to nowhere", changed(func(m *api.Mine) { m.Roads[4].To = 4 }), good, nil},
		{"a place too high", changed(func(m *api.Mine) { m.Places[3].Height = math.MaxInt }), good, nil},
		{"a time too few", ring(), good[:3], nil},
		{"a time too many", ring(), append(slices.Clone(good), never), nil},
		{"no times", ring(), nil, nil},
		{"a time below 0", ring(), []int{0, never, never, -1}, nil},
		{"a first time below 0", ring(), []int{math.MinInt, 0, 0, 0}, nil},
		{"a time behind never", ring(), []int{0, never + 1, never, never}, nil},
		{"greatest number", ring(), []int{0, never, math.MaxInt, never}, nil},
	}
	for _, x := range l {
		if got := Least(x.m, x.from); len(got) != 0 {
			t.Errorf("Least, %s: %v", x.name, got)
		}
		if got := Within(x.m, x.from, never); len(got) != 0 {
			t.Errorf("Within, %s: %v", x.name, got)
		}
	}
}

// P3.2: places that are reached until a time.
func TestWithin(t *testing.T) {
	cut := changed(func(m *api.Mine) { m.Roads[3].Closed = true })
	from := []int{0, never, never, never}
	l := []struct {
		name  string
		m     api.Mine
		from  []int
		until int
		want  []int
	}{
		{"at once", ring(), from, 0, []int{0}},
		{"before", ring(), from, -1, nil},
		{"long before", ring(), from, math.MinInt, nil},
		{"just not", ring(), from, 99, []int{0}},
		{"just", ring(), from, 100, []int{0, 1}},
		{"all", ring(), from, 350, []int{0, 1, 2, 3}},
		{"not the last", ring(), from, 349, []int{0, 1, 2}},
		{"from the last", ring(), []int{never, never, never, 10}, 60, []int{2, 3}},
		{"never is not within never", cut, from, never, []int{0, 1, 2}},
		{"nor within anything", cut, from, math.MaxInt, []int{0, 1, 2}},
		{"from nowhere", ring(), []int{never, never, never, never}, never, nil},
		{"the last moment", ring(), []int{never - 1, never, never, never}, never, []int{0}},
		{"no places", api.Mine{}, nil, 9, nil},
	}
	for _, x := range l {
		if got := Within(x.m, x.from, x.until); !slices.Equal(got, x.want) {
			t.Errorf("%s: %v, want %v", x.name, got, x.want)
		}
	}
}

// maker makes numbers that look odd, but are the same in each run.
type maker uint64

// below returns the next number from 0 to n - 1.
func (s *maker) below(n int) int {
	*s = *s*6364136223846793005 + 1442695040888963407
	return int(uint64(*s)>>33) % n
}

// madeMine returns a mine with few different lengths, so that many ways take the same time.
func madeMine(s *maker) api.Mine {
	m := api.Mine{Places: make([]api.Place, 2+s.below(6))}
	for i := range m.Places {
		m.Places[i].Height = s.below(3) * 20
	}
	for range s.below(12) {
		from, to := s.below(len(m.Places)), s.below(len(m.Places))
		if from == to {
			continue
		}
		r := testRoad(from, to, 12*(1+s.below(3)))
		r.Closed, r.Walk = s.below(8) == 0, s.below(8) > 0
		m.Roads = append(m.Roads, r)
	}
	return m
}

// madeTimes returns a time for each place, or api.Never.
func madeTimes(s *maker, m api.Mine) []int {
	l := make([]int, len(m.Places))
	for i := range l {
		l[i] = []int{never, never, s.below(100), never - 1 - s.below(100)}[s.below(4)]
	}
	return l
}

// way is the roads of a way, and their time.
type way struct {
	roads []int
	time  int
}

// allWays returns all ways without a place twice that begin with a way to a place, for each place.
func allWays(m api.Mine, place int, w way, met []bool, result [][]way) {
	result[place] = append(result[place], w)
	met[place] = true
	for _, road := range plan.Roads(m, place) {
		other := plan.Other(m, road, place)
		time := Time(m, road, m.Roads[road].To == place)
		if time >= 0 && !met[other] {
			allWays(m, other, way{append(slices.Clone(w.roads), road), w.time + time}, met, result)
		}
	}
	met[place] = false
}

// waysFrom returns all ways from a place without a place twice, for each place.
func waysFrom(m api.Mine, place int) [][]way {
	result := make([][]way, len(m.Places))
	allWays(m, place, way{}, make([]bool, len(m.Places)), result)
	return result
}

// P3.2: Least is the least of all sums, in many made mines.
func TestLeastOfAllWays(t *testing.T) {
	s := maker(3)
	for range 400 {
		m := madeMine(&s)
		from := madeTimes(&s, m)
		want := slices.Repeat([]int{never}, len(m.Places))
		for start, time := range from {
			for place, ways := range waysFrom(m, start) {
				for _, w := range ways {
					want[place] = min(want[place], time+w.time)
				}
			}
		}
		got := Least(m, from)
		if !slices.Equal(got, want) {
			t.Fatalf("%v from %v: %v, want %v", m, from, got, want)
		}
		// Consequence: Least of Least is Least.
		if again := Least(m, got); !slices.Equal(again, got) {
			t.Fatalf("%v: Least of %v is %v", m, got, again)
		}
	}
}

// Consequence: with another time that is less, or a road more, no least time becomes greater.
func TestLeastFalls(t *testing.T) {
	s := maker(4)
	for range 400 {
		m := madeMine(&s)
		from := madeTimes(&s, m)
		before := Least(m, from)
		earlier := slices.Clone(from)
		earlier[s.below(len(earlier))] /= 2
		more := m
		more.Roads = append(slices.Clone(m.Roads), testRoad(s.below(len(m.Places)-1), len(m.Places)-1, 1+s.below(40)))
		for _, after := range [][]int{Least(m, earlier), Least(more, from)} {
			for place := range before {
				if after[place] > before[place] {
					t.Fatalf("%v from %v: the place %d is reached at %d, and with more at %d", m, from, place, before[place], after[place])
				}
			}
		}
	}
}

// P3.2: the greatest mine, a chain with the roads in the order that is worst.
func TestLeastOfChain(t *testing.T) {
	m := api.Mine{Places: make([]api.Place, api.MaxPlaces)}
	for i := api.MaxPlaces - 2; i >= 0; i-- {
		m.Roads = append(m.Roads, testRoad(i, i+1, api.MaxLength))
	}
	from := slices.Repeat([]int{never}, api.MaxPlaces)
	from[0] = 0
	for place, got := range Least(m, from) {
		if want := place * 83334; got != want {
			t.Errorf("the place %d is reached at %d, want %d", place, got, want)
		}
	}
	roads, time, ok := Way(m, 0, api.MaxPlaces-1)
	if len(roads) != api.MaxPlaces-1 || time != 83334*(api.MaxPlaces-1) || !ok {
		t.Errorf("the way has %d roads and takes %d, %t", len(roads), time, ok)
	}
}
