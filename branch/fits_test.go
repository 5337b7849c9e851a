package branch

import (
	"math"
	"slices"
	"testing"

	"minecontrol/api"
)

// wantFits checks what Fits answers.
func wantFits(t *testing.T, name string, a api.Air, s api.Setting, x api.State, want api.Errno) {
	t.Helper()
	if code := Fits(a, s, x); code != want {
		t.Errorf("%s: %+v in %+v: %d, want %d", name, x, s, code, want)
	}
}

// stateOf returns a state of the air.
func stateOf(pressures []int, flows ...int) api.State {
	return api.State{Pressures: pressures, Flows: flows}
}

// ring returns an air in which the surface, 0, and the places 1 and 2 are in a ring of roads; two more roads lead from 1 to 2, the last one closed.
func ring() api.Air {
	l := []api.Road{
		roadOf(0, 1, exactly(1), spanOf(3, 10)),
		roadOf(1, 2, spanOf(1, 2), exactly(1)),
		roadOf(2, 0, exactly(1), spanOf(-1, 0)),
		roadOf(1, 2, exactly(1), exactly(0)),
		roadOf(1, 2, exactly(1), spanOf(-9, 9)),
	}
	l[4].Closed = true
	return api.Air{Mine: api.Mine{Places: []api.Place{{Surface: true}, {}, {}}, Roads: l}}
}

// ringState returns a state of the ring that fits: from 0 to 1 the difference -5 is 4 less 9, from 1 to 2 the difference 1 is 2 less 1 and 1 less 0, and from 2 to 0 the difference 4 is 4 less 0.
func ringState() api.State { return stateOf([]int{0, 5, 4}, 2, 1, 2, 1, 0) }

// P9.4: a state that fits, and what is wrong with others, each alone.
func TestFits(t *testing.T) {
	wantFits(t, "a state that fits", ring(), api.Setting{}, ringState(), api.OK)
	wantFits(t, "another one, with the same flows", ring(), api.Setting{}, stateOf([]int{0, 6, 5}, 2, 1, 2, 1, 0), api.OK)
	wantFits(t, "empty lists", ring(), api.Setting{Fans: []int{}, Doors: []int{}}, ringState(), api.OK)
	l := []struct {
		name   string
		change func(x *api.State)
		want   api.Errno
	}{
		{"nothing", func(x *api.State) { *x = api.State{} }, api.ErrLength},
		{"a pressure less", func(x *api.State) { x.Pressures = x.Pressures[:2] }, api.ErrLength},
		{"a pressure more", func(x *api.State) { x.Pressures = append(x.Pressures, 0) }, api.ErrLength},
		{"no pressures", func(x *api.State) { x.Pressures = nil }, api.ErrLength},
		{"a flow less", func(x *api.State) { x.Flows = x.Flows[:4] }, api.ErrLength},
		{"a flow more", func(x *api.State) { x.Flows = append(x.Flows, 0) }, api.ErrLength},
		{"no flows", func(x *api.State) { x.Flows = nil }, api.ErrLength},
		{"pressure at the surface", func(x *api.State) { x.Pressures = []int{1, 6, 5} }, api.ErrState},
		{"a flow in a closed road", func(x *api.State) { *x = stateOf([]int{0, 2, 1}, 1, 1, 1, 1, -1) }, api.ErrState},
		{"the lesser end of a difference", func(x *api.State) { *x = stateOf([]int{0, 2, 2}, 1, 1, 1, 0, 0) }, api.OK},
		{"the greater end of a difference", func(x *api.State) { *x = stateOf([]int{0, 6, 5}, 2, 1, 2, 1, 0) }, api.OK},
		{"less than a difference", func(x *api.State) { *x = stateOf([]int{0, 4, 3}, 2, 1, 2, 1, 0) }, api.ErrState},
		{"more than a difference", func(x *api.State) { *x = stateOf([]int{0, 7, 6}, 2, 1, 2, 1, 0) }, api.ErrState},
		{"all pressures 0", func(x *api.State) { x.Pressures = []int{0, 0, 0} }, api.ErrState},
		{"all flows 0", func(x *api.State) { x.Flows = []int{0, 0, 0, 0, 0} }, api.ErrState},
		{"less comes to the place 1 than leaves it", func(x *api.State) { x.Flows[0] = 1 }, api.ErrState},
		{"less leaves the place 2 than comes", func(x *api.State) { *x = stateOf([]int{0, 2, 1}, 2, 1, 1, 1, 0) }, api.ErrState},
	}
	for _, x := range l {
		state := ringState()
		x.change(&state)
		wantFits(t, x.name, ring(), api.Setting{}, state, x.want)
	}
	opened := ring()
	opened.Mine.Roads[4].Closed = false
	wantFits(t, "a flow in the closed road, now open", opened, api.Setting{}, stateOf([]int{0, 2, 1}, 1, 1, 1, 1, -1), api.OK)
}

// P9.4: an air without anything, and one with places alone.
func TestFitsNothing(t *testing.T) {
	wantFits(t, "nothing", api.Air{}, api.Setting{}, api.State{}, api.OK)
	wantFits(t, "empty lists", api.Air{}, api.Setting{Fans: []int{}, Doors: []int{}}, stateOf([]int{}, []int{}...), api.OK)
	wantFits(t, "a pressure too many", api.Air{}, api.Setting{}, stateOf([]int{0}), api.ErrLength)
	a := api.Air{Mine: api.Mine{Places: []api.Place{{Surface: true}, {}}}}
	wantFits(t, "a place without roads", a, api.Setting{}, stateOf([]int{0, -77}), api.OK)
	wantFits(t, "the surface without roads", a, api.Setting{}, stateOf([]int{-77, 0}), api.ErrState)
}

// P9.4: pressures and flows up to their limits.
func TestFitsAtLimits(t *testing.T) {
	cutOff := ring()
	cutOff.Mine.Roads = []api.Road{roadOf(1, 2, exactly(1), exactly(0))}
	for _, x := range []struct {
		first, second int
		want          api.Errno
	}{
		{1 << 46, 1 << 46, api.OK},
		{-1 << 46, -1 << 46, api.OK},
		{1<<46 + 1, 1<<46 + 1, api.ErrRange},
		{-1<<46 - 1, -1<<46 - 1, api.ErrRange},
		{0, 1<<46 + 1, api.ErrRange},
		{-1<<46 - 1, 0, api.ErrRange},
		{math.MaxInt, math.MaxInt, api.ErrRange},
		{math.MinInt, math.MinInt, api.ErrRange},
		{math.MinInt, math.MaxInt, api.ErrRange},
		{1 << 46, -1 << 46, api.ErrState},
		{-1 << 46, 1 << 46, api.ErrState},
	} {
		wantFits(t, "pressures", cutOff, api.Setting{}, stateOf([]int{0, x.first, x.second}, 0), x.want)
	}
	for _, x := range []struct {
		flow, lift int
		want       api.Errno
	}{
		{1 << 20, 1 << 40, api.OK},
		{-1 << 20, -1 << 40, api.OK},
		{1 << 20, 1<<40 - 1, api.ErrState},
		{-1 << 20, 1 << 40, api.ErrState},
		{1<<20 + 1, (1<<20 + 1) * (1<<20 + 1), api.ErrRange},
		{-1<<20 - 1, -(1<<20 + 1) * (1<<20 + 1), api.ErrRange},
		{math.MaxInt, 0, api.ErrRange},
		{math.MinInt, 0, api.ErrRange},
	} {
		// At the surface no flows have to add up.
		a := alone(exactly(1), exactly(x.lift))
		a.Mine.Places[1].Surface = true
		wantFits(t, "a flow", a, api.Setting{}, stateOf([]int{0, 0}, x.flow), x.want)
	}
	a := largest()
	x := api.State{Pressures: make([]int, 64), Flows: make([]int, 128)}
	wantFits(t, "the largest air", a, unknown(a), x, api.OK)
	x.Flows[127] = 1 << 20
	wantFits(t, "the largest air with too much air in one road", a, unknown(a), x, api.ErrState)
	for i := range x.Flows {
		x.Flows[i] = 1 << 20
	}
	wantFits(t, "the largest air with as much air as there can be", a, unknown(a), x, api.OK)
}

// P9.4: the errors of the air and of the setting, and of several errors the first one.
func TestFitsErrors(t *testing.T) {
	states := []api.State{
		{},
		stateOf([]int{0, 0, 0, 0}, 0, 0, 0, 0),
		stateOf([]int{0, 0, 0}, 0, 0, 0, 0),
		stateOf([]int{1 << 60, 0, 0, 0}, 0, 0, 0, 0),
		stateOf([]int{1, 0, 0, 0}, 0, 0, 0, 5),
	}
	for _, x := range states {
		for _, f := range faults() {
			a := with(usual(), f.make)
			for _, s := range []api.Setting{still(), unknown(a), {}} {
				wantFits(t, f.name, a, s, x, f.code)
			}
		}
		for _, s := range oddSettings() {
			wantFits(t, "a setting that does not belong", usual(), s, x, api.ErrSetting)
		}
	}
	l := []struct {
		name string
		x    api.State
		want api.Errno
	}{
		{"pressures out of range, a flow less", stateOf([]int{0, 1 << 60, 0, 0}, 0, 0, 0), api.ErrLength},
		{"flows out of range, a pressure less", stateOf([]int{0, 0, 0}, 1<<60, 0, 0, 0), api.ErrLength},
		{"a pressure more, out of range", stateOf([]int{0, 0, 0, 0, 1 << 60}, 0, 0, 0, 0), api.ErrLength},
		{"pressure at the surface, a flow less", stateOf([]int{5, 0, 0, 0}, 0, 0, 0), api.ErrLength},
		{"a pressure out of range at the surface", stateOf([]int{0, 0, 0, 1 << 60}, 0, 0, 0, 0), api.ErrRange},
		{"pressure at the surface, a flow out of range", stateOf([]int{5, 0, 0, 0}, 0, 0, 1<<60, 0), api.ErrRange},
		{"a closed road with too much air", stateOf([]int{0, 0, 0, 0}, 0, 0, 0, 1<<60), api.ErrRange},
	}
	for _, x := range l {
		wantFits(t, x.name, usual(), still(), x.x, x.want)
	}
}

// ringFaults says what is wrong with a state of the ring, in lists of the right lengths: pressure at the surface, a flow in the closed road, differences, and flows that do not add up.
func ringFaults(p, f [5]int) [4]bool {
	square := func(n int) int { return n * max(n, -n) }
	in := func(n, low, high int) bool { return low <= n && n <= high }
	one := square(f[1])
	return [4]bool{
		p[0] != 0,
		f[4] != 0,
		!in(p[0]-p[1], square(f[0])-10, square(f[0])-3) || !in(p[1]-p[2], min(one, 2*one)-1, max(one, 2*one)-1) || !in(p[2]-p[0], square(f[2]), square(f[2])+1) || p[1]-p[2] != square(f[3]),
		f[0] != f[1]+f[3]+f[4] || f[2] != f[1]+f[3]+f[4],
	}
}

// ringStates goes through states of the ring with small numbers.
func ringStates(yield func(p, f [5]int) bool) {
	for n := range 3 * 9 * 9 {
		p := [5]int{n%3 - 1, n / 3 % 9, n / 27}
		for m := range 3 * 5 * 5 * 5 * 5 {
			f := [5]int{m/3%5 - 2, m/15%5 - 2, m/75%5 - 2, m/375 - 2, m%3 - 1}
			if !yield(p, f) {
				return
			}
		}
	}
}

// P9.4, and chapter 9, consequences: for all small states of the ring, those fit with which nothing is wrong, and each flow of those is in the Flow of its difference.
func TestFitsAllStates(t *testing.T) {
	a := ring()
	fits, alone := 0, [4]int{}
	for p, f := range ringStates {
		x := stateOf(p[:3], f[:]...)
		faults := ringFaults(p, f)
		if first := slices.Index(faults[:], true); first >= 0 {
			wantFits(t, "wrong", a, api.Setting{}, x, api.ErrState)
			if !slices.Contains(faults[first+1:], true) {
				alone[first]++
			}
			continue
		}
		fits++
		wantFits(t, "nothing wrong", a, api.Setting{}, x, api.OK)
		for i, r := range a.Mine.Roads[:4] {
			if s := Flow(a, api.Setting{}, i, p[r.From]-p[r.To]); f[i] < s.Low || f[i] > s.High {
				t.Errorf("%+v: %v of the road %d", x, s, i)
			}
		}
	}
	// The pressures 2 and 2 of the places 1 and 2 with the flow 1, all of it along the road 1; 5 and 4, and 6 and 5, with the flow 2, half of it along each open road.
	if fits != 3 || slices.Min(alone[:]) < 2 {
		t.Errorf("%d states fit, and %v have one kind of fault alone", fits, alone)
	}
}

// rotated returns a list that begins with another element.
func rotated[T any](l []T, by int) []T {
	return append(append([]T{}, l[by:]...), l[:by]...)
}

// P9.4: each road counts, wherever it is in the list, and each place.
func TestFitsInAnyOrder(t *testing.T) {
	for p, f := range ringStates {
		faults := ringFaults(p, f)
		first := slices.Index(faults[:], true)
		if slices.Contains(faults[first+1:], true) {
			continue
		}
		want := api.OK
		if first >= 0 {
			want = api.ErrState
		}
		for by := range 5 {
			a := ring()
			a.Mine.Roads = rotated(a.Mine.Roads, by)
			wantFits(t, "rotated roads", a, api.Setting{}, stateOf(p[:3], rotated(f[:], by)...), want)
		}
		for by := range 3 {
			a := ring()
			a.Mine.Places = rotated(a.Mine.Places, by)
			for i := range a.Mine.Roads {
				r := &a.Mine.Roads[i]
				r.From, r.To = (r.From+3-by)%3, (r.To+3-by)%3
			}
			wantFits(t, "rotated places", a, api.Setting{}, stateOf(rotated(p[:3], by), f[:]...), want)
		}
	}
}

// P9.4: with fans and doors in all their states, a difference is possible if it is in Drop.
func TestFitsIsInDrop(t *testing.T) {
	a := usual()
	in := func(n int, s api.Span) bool { return s.Low <= n && n <= s.High }
	fits := 0
	for n := range 4 * 4 * 4 * 3 * 4 {
		s := still()
		s.Fans[0], s.Fans[1], s.Fans[2], s.Doors[0], s.Doors[1] = n%4-1, n/4%4-1, n/16%4-1, n/64%3-1, n/192%4-1
		for flow := -4; flow <= 4; flow++ {
			first, second, third := Drop(a, s, 0, flow), Drop(a, s, 1, flow), Drop(a, s, 2, flow)
			high := first.High
			for _, low := range []int{-high - second.Low, -high - second.High, third.Low, third.High} {
				for _, p := range []int{low - 1, low, low + 1} {
					want := api.ErrState
					if in(-high-p, second) && in(p, third) {
						want = api.OK
						fits++
					}
					wantFits(t, "in Drop", a, s, stateOf([]int{0, -high, p, 0}, flow, flow, flow, 0), want)
				}
			}
		}
	}
	if fits < 100 {
		t.Errorf("only %d states fit", fits)
	}
}
