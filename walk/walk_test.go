package walk

import (
	"math"
	"slices"
	"testing"

	"minecontrol/api"
)

// testRoad returns a road that people can walk.
func testRoad(from, to, length int) api.Road {
	return api.Road{From: from, To: to, Length: length, Area: 12, Walk: true, Rest: api.Span{Low: 2, High: 5}}
}

// sloped returns a mine with a road of a length that rises from the place 0 to the place 1.
func sloped(length, rise int) api.Mine {
	return api.Mine{Places: []api.Place{{Height: -rise}, {}}, Roads: []api.Road{testRoad(0, 1, length)}}
}

// timeCase is a road with its time and its time in smoke, there and back.
type timeCase struct {
	name          string
	length, rise  int
	there, back   int
	there2, back2 int
}

// P3.1: the time of a road by its length and rise, in both directions, rounded up.
func TestTimeAndSlow(t *testing.T) {
	l := []timeCase{
		{"level", 120, 0, 100, 100, 300, 300},
		{"rises by 20", 120, 20, 200, 134, 600, 400},
		{"falls by 20", 120, -20, 134, 200, 400, 600},
		{"rises by a tenth", 120, 12, 100, 100, 300, 300},
		{"rises by just more", 120, 13, 200, 134, 600, 400},
		{"falls by a tenth", 120, -12, 100, 100, 300, 300},
		{"falls by just more", 120, -13, 134, 200, 400, 600},
		{"a tenth of 119 is less than 12", 119, 12, 199, 133, 595, 397},
		{"a tenth of 121 is more than 12", 121, 12, 101, 101, 303, 303},
		{"shortest", 1, 0, 1, 1, 3, 3},
		{"shortest that rises", 1, 1, 2, 2, 5, 4},
		{"level, nothing to round", 6, 0, 5, 5, 15, 15},
		{"level, rounded up", 7, 0, 6, 6, 18, 18},
		{"rise, nothing to round", 3, 1, 5, 4, 15, 10},
		{"fall, nothing to round", 9, 1, 15, 10, 45, 30},
		{"longest", api.MaxLength, 0, 83334, 83334, 250000, 250000},
		{"longest that rises", api.MaxLength, 10001, 166667, 111112, 500000, 333334},
		{"steepest", 1, 2 * api.MaxHeight, 2, 2, 5, 4},
	}
	for _, x := range l {
		m := sloped(x.length, x.rise)
		// The rise is a difference only: the same road somewhere else takes the same time.
		if x.rise == 2*api.MaxHeight {
			m.Places[0].Height, m.Places[1].Height = -api.MaxHeight, api.MaxHeight
		}
		if x.rise == 10001 {
			m.Places[0].Height, m.Places[1].Height = -api.MaxHeight, 1
		}
		if a, b := Time(m, 0, false), Time(m, 0, true); a != x.there || b != x.back {
			t.Errorf("Time, %s: %d and %d back, want %d and %d", x.name, a, b, x.there, x.back)
		}
		if a, b := Slow(m, 0, false), Slow(m, 0, true); a != x.there2 || b != x.back2 {
			t.Errorf("Slow, %s: %d and %d back, want %d and %d", x.name, a, b, x.there2, x.back2)
		}
	}
}

// P3.1: each road has its own time.
func TestTimeOfEachRoad(t *testing.T) {
	m := api.Mine{
		Places: []api.Place{{}, {Height: 50}, {Height: -50}},
		Roads:  []api.Road{testRoad(0, 1, 60), testRoad(2, 1, 600), testRoad(2, 0, 6000)},
	}
	for road, want := range []int{100, 1000, 5000} {
		if got := Time(m, road, false); got != want {
			t.Errorf("the road %d takes %d, want %d", road, got, want)
		}
	}
}

// P3.1: -1 where nobody can walk.
func TestNoTime(t *testing.T) {
	closed, wheels, both := sloped(120, 0), sloped(120, 0), sloped(120, 0)
	closed.Roads[0].Closed = true
	wheels.Roads[0].Walk = false
	both.Roads[0].Walk, both.Roads[0].Closed = false, true
	high, odd := sloped(120, 0), sloped(120, 0)
	high.Places[1].Height = api.MaxHeight + 1
	odd.Roads = append(odd.Roads, testRoad(1, 1, 5))
	far := api.Mine{Roads: []api.Road{testRoad(math.MinInt, math.MaxInt, 1)}}
	l := []struct {
		name string
		m    api.Mine
		road int
	}{
		{"closed", closed, 0},
		{"not for walking", wheels, 0},
		{"closed and not for walking", both, 0},
		{"road -1", sloped(120, 0), -1},
		{"behind the last road", sloped(120, 0), 1},
		{"far", sloped(120, 0), math.MaxInt},
		{"far below", sloped(120, 0), math.MinInt},
		{"nothing", api.Mine{}, 0},
		{"no length", sloped(0, 0), 0},
		{"too long", sloped(api.MaxLength+1, 0), 0},
		{"a place too high", high, 0},
		{"another road is odd", odd, 0},
		{"no places", far, 0},
	}
	for _, x := range l {
		for _, back := range []bool{false, true} {
			if got := Time(x.m, x.road, back); got != -1 {
				t.Errorf("Time, %s: %d, want -1", x.name, got)
			}
			if got := Slow(x.m, x.road, back); got != -1 {
				t.Errorf("Slow, %s: %d, want -1", x.name, got)
			}
		}
	}
}

// R2: the mine stays as it is.
func TestWalkLeavesArguments(t *testing.T) {
	m := ring()
	m.Places = append(m.Places, api.Place{Height: 77})[:4]
	m.Roads = append(m.Roads, testRoad(0, 3, 9))[:5]
	from := append([]int{api.Never, 7, api.Never, 0}, 99)[:4]
	Time(m, 1, true)
	Slow(m, 1, true)
	l := Least(m, from)
	l[0] = -5
	Within(m, from, 1000)
	Way(m, 0, 3)
	if want := ring(); !slices.Equal(m.Places, want.Places) || !slices.Equal(m.Roads, want.Roads) {
		t.Errorf("the mine is %v", m)
	}
	if m.Places[:5][4] != (api.Place{Height: 77}) || m.Roads[:6][5] != testRoad(0, 3, 9) || from[:5][4] != 99 {
		t.Errorf("the spare capacity was changed")
	}
	if !slices.Equal(from, []int{api.Never, 7, api.Never, 0}) {
		t.Errorf("the times are %v", from)
	}
}
