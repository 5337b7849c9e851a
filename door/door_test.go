package door

import (
	"math"
	"slices"
	"testing"

	"minecontrol/api"
)

// regulator returns a door that is not one of a double door.
func regulator(rests ...int) api.Door {
	return api.Door{Road: 3, Other: -1, Rests: rests}
}

// half returns a door of a double door.
func half(other int, rests ...int) api.Door {
	return api.Door{Road: 4, Other: other, Rests: rests}
}

// many returns so many doors that are not of double doors.
func many(doors int) []api.Door {
	var l []api.Door
	for i := range doors {
		l = append(l, regulator(5000+i, 10))
	}
	return l
}

// pairs returns so many doors, the first one and the last one a double door, and so on inwards.
func pairs(doors int) []api.Door {
	var l []api.Door
	for i := range doors {
		l = append(l, half(doors-1-i, 5000, 300, i))
	}
	return l
}

// falling returns so many numbers that descend strictly.
func falling(rests int) []int {
	var l []int
	for i := range rests {
		l = append(l, 1000-i)
	}
	return l
}

// goodDoors are lists of doors without an error.
func goodDoors() [][]api.Door {
	return [][]api.Door{
		nil,
		{},
		{regulator(1, 0)},
		{regulator(5000, 10)},
		{regulator(1<<18, 0)},
		{regulator(1<<18, 1<<18-1)},
		{regulator(falling(6)...)},
		{regulator(1<<18, 1<<18-1, 1<<17, 2, 1, 0)},
		{{Road: 0, Other: -1, Rests: []int{9, 2}}, {Road: math.MaxInt, Other: -1, Rests: []int{9, 2}}},
		{half(1, 5000, 10), half(0, 5000, 10)},
		{half(1, 9, 8, 7), half(0, 5000, 10)},
		{regulator(7, 2), half(3, 9, 1), regulator(6, 5, 4), half(1, 8, 0)},
		{half(2, 9, 1), half(3, 9, 1), half(0, 9, 1), half(1, 9, 1), regulator(9, 1)},
		many(15),
		many(16),
		pairs(2),
		pairs(16),
	}
}

// oddDoors is a list of doors that has an error.
type oddDoors struct {
	name string
	l    []api.Door
	code api.Errno
}

// oddAlone are lists of doors in which one door has an error of its own.
func oddAlone() []oddDoors {
	l := []oddDoors{
		{"the road -1", []api.Door{{Road: -1, Other: -1, Rests: []int{5, 1}}}, api.ErrRoad},
		{"the least road", []api.Door{{Road: math.MinInt, Other: -1, Rests: []int{5, 1}}}, api.ErrRoad},
		{"no Rests", []api.Door{regulator()}, api.ErrLimit},
		{"an empty list of Rests", []api.Door{regulator([]int{}...)}, api.ErrLimit},
		{"one of the Rests", []api.Door{regulator(5)}, api.ErrLimit},
		{"7 Rests", []api.Door{regulator(falling(7)...)}, api.ErrLimit},
		{"many Rests", []api.Door{regulator(falling(300)...)}, api.ErrLimit},
		{"the same Rest again", []api.Door{regulator(5, 5)}, api.ErrDoor},
		{"Rests of 0", []api.Door{regulator(0, 0)}, api.ErrDoor},
		{"a greater Rest", []api.Door{regulator(5, 6)}, api.ErrDoor},
		{"Rests the other way round", []api.Door{regulator(0, 1, 2, 3, 4, 1<<18)}, api.ErrDoor},
		{"the same Rest in the middle", []api.Door{regulator(9, 8, 8, 7)}, api.ErrDoor},
		{"the same Rest at the end", []api.Door{regulator(9, 8, 7, 6, 5, 5)}, api.ErrDoor},
		{"a greater Rest at the end", []api.Door{regulator(9, 8, 7, 6, 5, 6)}, api.ErrDoor},
		{"the first Rest again", []api.Door{regulator(9, 8, 9)}, api.ErrDoor},
	}
	for _, rest := range []int{-1, 1<<18 + 1, 1 << 32, math.MinInt, math.MaxInt} {
		for i := range 3 {
			rests := []int{9, 8, 7}
			rests[i] = rest
			l = append(l, oddDoors{"a Rest out of its range", []api.Door{regulator(rests...)}, api.ErrRange})
		}
	}
	return l
}

// oddPairs are lists of doors in which an Other one is wrong.
func oddPairs() []oddDoors {
	l := []oddDoors{
		{"two that have the same Other one", []api.Door{half(1, 5, 1), half(0, 5, 1), half(0, 5, 1)}, api.ErrDoor},
		{"the same, from the first one on", []api.Door{half(2, 5, 1), half(2, 5, 1), half(1, 5, 1)}, api.ErrDoor},
		{"three in a ring", []api.Door{half(1, 5, 1), half(2, 5, 1), half(0, 5, 1)}, api.ErrDoor},
		{"an Other one that is single", []api.Door{half(1, 5, 1), regulator(5, 1)}, api.ErrDoor},
		{"a single one that is an Other one", []api.Door{regulator(5, 1), half(0, 5, 1)}, api.ErrDoor},
		{"both their own Other ones", []api.Door{half(0, 5, 1), half(1, 5, 1)}, api.ErrDoor},
		{"the last door its own Other one", append(many(15), half(15, 5, 1)), api.ErrDoor},
		{"the last door with an Other one behind it", append(many(15), half(16, 5, 1)), api.ErrDoor},
	}
	for _, other := range []int{0, 1, 2, -2, -3, 16, 1 << 32, 1<<32 - 1, math.MinInt, math.MaxInt} {
		l = append(l, oddDoors{"a door alone with an Other one", []api.Door{half(other, 5, 1)}, api.ErrDoor})
	}
	for _, other := range []int{0, 2, 3, -2, math.MinInt, math.MaxInt} {
		two := []api.Door{half(other, 5, 1), half(0, 5, 1)}
		l = append(l, oddDoors{"an Other one that there is not", two, api.ErrDoor})
	}
	return l
}

// oddLists are lists of doors that have an error.
func oddLists() []oddDoors {
	l := []oddDoors{
		{"17 doors", many(17), api.ErrLimit},
		{"17 doors, pairs and one that is its own", pairs(17), api.ErrLimit},
		{"18 doors", pairs(18), api.ErrLimit},
		{"300 doors", many(300), api.ErrLimit},
	}
	return append(append(l, oddAlone()...), oddPairs()...)
}

// wantCheck checks what Check answers.
func wantCheck(t *testing.T, name string, l []api.Door, want api.Errno) {
	t.Helper()
	if code := Check(l); code != want {
		t.Errorf("%s: %+v: %d, want %d", name, l, code, want)
	}
}

// P8.1: doors without an error, also at all limits.
func TestCheck(t *testing.T) {
	for _, l := range goodDoors() {
		wantCheck(t, "no error", l, api.OK)
	}
}

// P8.1: errors, each alone.
func TestCheckErrors(t *testing.T) {
	for _, x := range oddLists() {
		wantCheck(t, x.name, x.l, x.code)
	}
}

// P8.1: each door counts, wherever it is.
func TestCheckEachDoor(t *testing.T) {
	for _, x := range oddAlone() {
		for _, doors := range []int{2, 3, 16} {
			for i := range doors {
				l := many(doors)
				l[i] = x.l[0]
				wantCheck(t, x.name, l, x.code)
			}
		}
	}
}

// P8.1: of several errors of the doors the first one counts.
func TestCheckErrorOrder(t *testing.T) {
	odd := api.Door{Road: -1, Other: 5, Rests: []int{-1, -1}}
	l := []oddDoors{
		{"many doors, the first one with errors", append([]api.Door{odd}, many(16)...), api.ErrLimit},
		{"many doors, the last one with errors", append(many(16), odd), api.ErrLimit},
		{"17 without Rests", make([]api.Door, 17), api.ErrLimit},
		{"road and no Rests", []api.Door{{Road: -1, Other: -1}}, api.ErrRoad},
		{"road and many Rests", []api.Door{{Road: -1, Other: -1, Rests: falling(7)}}, api.ErrRoad},
		{"road and range", []api.Door{{Road: -1, Other: -1, Rests: []int{5, -1}}}, api.ErrRoad},
		{"road and Rests that rise", []api.Door{{Road: -1, Other: -1, Rests: []int{5, 6}}}, api.ErrRoad},
		{"road and Other", []api.Door{{Road: -1, Other: 7, Rests: []int{5, 1}}}, api.ErrRoad},
		{"one Rest out of its range", []api.Door{regulator(-1)}, api.ErrLimit},
		{"7 Rests, one out of its range", []api.Door{regulator(append(falling(6), -1)...)}, api.ErrLimit},
		{"7 Rests that rise", []api.Door{regulator(1, 2, 3, 4, 5, 6, 7)}, api.ErrLimit},
		{"no Rests and Other", []api.Door{half(7)}, api.ErrLimit},
		{"range and Rests that rise", []api.Door{regulator(5, 1<<18+1)}, api.ErrRange},
		{"Rests that rise, and range behind them", []api.Door{regulator(5, 6, -1)}, api.ErrRange},
		{"range and Other", []api.Door{half(7, 5, -1)}, api.ErrRange},
	}
	for _, x := range l {
		wantCheck(t, x.name, x.l, x.code)
	}
}

// P8.1: an error of an earlier door counts ahead of each one of a later door.
func TestCheckDoorsInOrder(t *testing.T) {
	kinds := append(oddAlone(), oddDoors{"Other", []api.Door{half(9, 5, 1)}, api.ErrDoor})
	for _, first := range kinds {
		for _, second := range kinds {
			l := []api.Door{regulator(7, 5), first.l[0], second.l[0]}
			wantCheck(t, first.name+", then "+second.name, l, first.code)
		}
	}
	for _, x := range oddAlone() {
		l := []api.Door{half(1, 5, 1), x.l[0]}
		wantCheck(t, "an Other one that is single, and has an error: "+x.name, l, api.ErrDoor)
		l[1].Other = 0
		wantCheck(t, "an Other one that has an error: "+x.name, l, x.code)
	}
}

// P8.1: of all lists of up to 4 doors, those whose Other ones belong together in twos are without an error.
func TestCheckAllPairs(t *testing.T) {
	for doors := range 5 {
		l := many(doors)
		for n := range power(doors+3, doors) {
			for i := range l {
				l[i].Other = n%(doors+3) - 2
				n /= doors + 3
			}
			want := api.OK
			if slices.ContainsFunc(l, func(d api.Door) bool { return d.Other < -1 || d.Other >= doors }) || !inTwos(l) {
				want = api.ErrDoor
			}
			wantCheck(t, "pairs", l, want)
		}
	}
}

// power returns a number times itself so many times.
func power(n, times int) int {
	product := 1
	for range times {
		product *= n
	}
	return product
}

// inTwos reports whether going from each door to its Other one, and on to the Other one of that, ends where it began, but not at once.
func inTwos(l []api.Door) bool {
	for i, d := range l {
		if d.Other == -1 {
			continue
		}
		if d.Other == i || d.Other < 0 || l[d.Other].Other != i {
			return false
		}
	}
	return true
}

// R2: arguments stay as they are, and what lies behind their ends neither counts nor changes.
func TestArgumentsStay(t *testing.T) {
	rests := []int{5000, 10, -7, 9000}
	doors := []api.Door{half(1, rests[:2]...), half(0, 8, 5), half(0, 1), {Road: -1}}
	states := []int{0, 1, 77, 78}
	l := doors[:2]
	for state := -2; state <= 3; state++ {
		for door := -1; door <= 2; door++ {
			Rest(doors[0], state)
			for _, change := range changes() {
				change.f(l, states[:2], door, state)
			}
		}
	}
	if code := Check(l); code != api.OK {
		t.Errorf("%+v: %d", l, code)
	}
	if open := Open(l, states[:2]); len(open) != 0 {
		t.Errorf("open: %v", open)
	}
	if !slices.Equal(rests, []int{5000, 10, -7, 9000}) || !slices.Equal(states, []int{0, 1, 77, 78}) {
		t.Errorf("Rests %v, states %v", rests, states)
	}
	if doors[0].Other != 1 || doors[1].Other != 0 || !slices.Equal(doors[1].Rests, []int{8, 5}) || doors[2].Other != 0 || doors[3].Road != -1 {
		t.Errorf("doors %+v", doors)
	}
}
