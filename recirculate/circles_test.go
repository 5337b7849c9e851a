package recirculate_test

import (
	"slices"
	"testing"

	"minecontrol/api"
	"minecontrol/recirculate"
)

// circledWant is what is expected of the mine and the flows of circled.
func circledWant() want {
	return want{
		ways:    [][2]int{{0, 1}, {1, 2}, {2, 3}, {3, 1}, {1, 3}, {3, 4}, {4, 5}, {5, 6}, {6, 7}, {8, 9}, {9, 8}, {8, 9}, {9, 8}, {7, 8}},
		circles: []int{1, 2, 3, 8, 9},
		mixed:   []int{1, 2, 3, 4, 5, 8, 9},
	}
}

// P14.1 to P14.4: two circles, and what lies around them: the surface 6 takes all air that comes, and 7 gets fresh air.
func TestCircled(t *testing.T) {
	m, flows := circled()
	check(t, "circled", m, flows, circledWant())
	// Without the road 2 the road 3, in both directions, leads to and fro, but that is no circle.
	w := circledWant()
	w.ways, w.circles, w.mixed = slices.Delete(w.ways, 2, 3), []int{8, 9}, []int{8, 9}
	check(t, "closed", closing(m, 2), flows, w)
}

// P14.2: two roads between the same two places.
func TestCirclesOfTwo(t *testing.T) {
	for _, x := range []struct {
		name          string
		first, second api.Span
		want          []int
	}{
		{"back along the other one", along, against, []int{0, 1}},
		{"the other way round", against, along, []int{0, 1}},
		{"both along", along, along, nil},
		{"both against", against, against, nil},
		{"one in both directions", both, along, []int{0, 1}},
		{"the other one in both directions", against, both, []int{0, 1}},
		{"both in both directions", both, both, []int{0, 1}},
		{"nothing in the other one", both, still, nil},
		{"nothing in the one", still, both, nil},
		{"just so much", spanOf(0, 1), spanOf(-1, 0), []int{0, 1}},
		{"along or nothing", spanOf(0, 1), spanOf(0, 1), nil},
	} {
		m := mineOf(3, [2]int{1, 2}, [2]int{1, 2})
		checkCircles(t, x.name, m, flowsOf(x.first, x.second), x.want)
		if x.want != nil {
			checkMixed(t, x.name, m, flowsOf(x.first, x.second), []int{1, 2})
		}
		checkCircles(t, x.name+", one closed", closing(m, 0), flowsOf(x.first, x.second), nil)
		checkCircles(t, x.name+", the other one closed", closing(m, 1), flowsOf(x.first, x.second), nil)
		for _, surface := range []int{1, 2} {
			checkCircles(t, x.name+", at the surface", surfacing(m, surface), flowsOf(x.first, x.second), nil)
			checkMixed(t, x.name+", at the surface", surfacing(m, surface), flowsOf(x.first, x.second), nil)
		}
		turned := mineOf(3, [2]int{1, 2}, [2]int{2, 1})
		checkCircles(t, x.name+", turned", turned, flowsOf(x.first, spanOf(-x.second.High, -x.second.Low)), x.want)
	}
}

// P14.2: to and fro along the same road is no circle, however many roads lie behind one another.
func TestCirclesToAndFro(t *testing.T) {
	checkCircles(t, "a road", mineOf(3, [2]int{1, 2}), flowsOf(both), nil)
	tree := mineOf(7, [2]int{1, 2}, [2]int{3, 2}, [2]int{3, 4}, [2]int{5, 3}, [2]int{1, 6}, [2]int{0, 1})
	checkCircles(t, "a tree", tree, flowsOf(both, both, both, both, both, both), nil)
	checkMixed(t, "a tree", tree, flowsOf(both, both, both, both, both, both), nil)
	// Between two rings a road in both directions is on no circle, though air can come back to both of its ends.
	rings := mineOf(7, [2]int{1, 2}, [2]int{2, 3}, [2]int{3, 1}, [2]int{3, 4}, [2]int{4, 5}, [2]int{5, 6}, [2]int{6, 4})
	checkCircles(t, "between rings", rings, flowsOf(along, along, along, both, along, along, along), []int{0, 1, 2, 4, 5, 6})
	checkMixed(t, "between rings", rings, flowsOf(along, along, along, both, along, along, along), []int{1, 2, 3, 4, 5, 6})
	// With a second road between them both are.
	rings.Roads = append(rings.Roads, roadOf(1, 6))
	checkCircles(t, "twice between rings", rings, flowsOf(along, along, along, both, along, along, along, against), []int{0, 1, 2, 3, 4, 5, 6, 7})
}

// P14.2: rings of three and more places, as the air can go round them.
func TestCirclesOfRings(t *testing.T) {
	m := mineOf(5, [2]int{1, 2}, [2]int{2, 3}, [2]int{4, 3}, [2]int{4, 1})
	all := []int{0, 1, 2, 3}
	for _, x := range []struct {
		name  string
		flows []api.Span
		want  []int
	}{
		{"round", flowsOf(along, along, against, along), all},
		{"the other way round", flowsOf(against, against, along, against), all},
		{"some in both directions", flowsOf(along, both, against, both), all},
		{"all in both directions", flowsOf(both, both, both, both), all},
		{"one against", flowsOf(along, along, along, along), nil},
		{"one against, the others in both directions", flowsOf(along, both, along, both), nil},
		{"nothing in one", flowsOf(along, along, against, still), nil},
		{"nothing or back in one", flowsOf(along, along, against, spanOf(-5, 0)), nil},
		{"without a number", flowsOf(along, spanOf(2, 1), against, along), all},
	} {
		checkCircles(t, x.name, m, x.flows, x.want)
		for place := 1; place <= 4; place++ {
			checkCircles(t, x.name+", at the surface", surfacing(m, place), x.flows, nil)
		}
		for road := range 4 {
			checkCircles(t, x.name+", closed", closing(m, road), x.flows, nil)
		}
	}
}

// P14.2: a chord that air can only enter or only leave is on one of the circles; one place in common joins two circles that stay two.
func TestCirclesOfSeveral(t *testing.T) {
	chord := mineOf(5, [2]int{1, 2}, [2]int{2, 3}, [2]int{3, 4}, [2]int{4, 1}, [2]int{1, 3})
	checkCircles(t, "a chord", chord, flowsOf(along, along, along, along, along), []int{0, 1, 2, 3, 4})
	checkCircles(t, "a chord without half of the ring", closing(chord, 1), flowsOf(along, along, along, along, along), []int{2, 3, 4})
	checkCircles(t, "a chord back", chord, flowsOf(along, along, still, along, against), []int{0, 1, 4})
	eight := mineOf(6, [2]int{1, 2}, [2]int{2, 3}, [2]int{3, 1}, [2]int{3, 4}, [2]int{4, 5}, [2]int{5, 3})
	checkCircles(t, "two rings", eight, flowsOf(along, along, along, along, along, along), []int{0, 1, 2, 3, 4, 5})
	checkCircles(t, "one of two rings", eight, flowsOf(along, along, along, along, along, against), []int{0, 1, 2})
	checkCircles(t, "the other one of two rings", eight, flowsOf(along, against, along, against, against, against), []int{3, 4, 5})
}

// P14.3: air goes on from circles as it can, also against a road, but never to circles, from the surface or across it.
func TestMixed(t *testing.T) {
	ends := [][2]int{{1, 2}, {1, 2}}
	for _, x := range []struct {
		name  string
		roads [][2]int
		flows []api.Span
		want  []int
	}{
		{"alone", nil, nil, []int{1, 2}},
		{"on", [][2]int{{2, 3}, {3, 4}}, flowsOf(along, along), []int{1, 2, 3, 4}},
		{"on against a road", [][2]int{{2, 3}, {4, 3}}, flowsOf(both, against), []int{1, 2, 3, 4}},
		{"on along what can be", [][2]int{{2, 3}, {3, 4}}, flowsOf(spanOf(0, 1), spanOf(-1, 1)), []int{1, 2, 3, 4}},
		{"not on", [][2]int{{2, 3}, {3, 4}}, flowsOf(still, along), []int{1, 2}},
		{"not far on", [][2]int{{2, 3}, {3, 4}}, flowsOf(along, against), []int{1, 2, 3}},
		{"to the circle", [][2]int{{3, 2}, {4, 3}}, flowsOf(along, along), []int{1, 2}},
		{"from the surface", [][2]int{{0, 1}, {0, 3}}, flowsOf(along, along), []int{1, 2}},
		{"to the surface", [][2]int{{1, 0}, {0, 3}}, flowsOf(along, along), []int{1, 2}},
		{"across the surface and below it", [][2]int{{1, 0}, {0, 3}, {2, 4}, {4, 3}}, flowsOf(along, along, along, along), []int{1, 2, 3, 4}},
		{"from a place to two", [][2]int{{2, 4}, {2, 3}}, flowsOf(along, along), []int{1, 2, 3, 4}},
	} {
		m := mineOf(5, append(slices.Clone(ends), x.roads...)...)
		flows := append(flowsOf(along, against), x.flows...)
		checkMixed(t, x.name, m, flows, x.want)
		flows[1] = along
		checkMixed(t, x.name+", without a circle", m, flows, nil)
	}
	m := mineOf(5, [2]int{1, 2}, [2]int{1, 2}, [2]int{2, 3}, [2]int{3, 4})
	checkMixed(t, "a closed road", closing(m, 2), flowsOf(along, against, along, along), []int{1, 2})
	checkMixed(t, "another place of the surface", surfacing(m, 3), flowsOf(along, against, along, along), []int{1, 2})
}

// P14.4: only auxiliary fans, and those in roads that there are; nothing else of a fan matters, and nothing else of the air.
func TestThrough(t *testing.T) {
	m, flows := circled()
	odd := auxiliary(8)
	odd.Back, odd.Curve = true, []api.Point{{Flow: 1, Pressure: -1}, {Flow: 0, Pressure: 9}}
	a := api.Air{Mine: m, Doors: []api.Door{{Road: 99, Other: 7}}, Fans: []api.Fan{
		auxiliary(3), {Road: 3}, auxiliary(0), auxiliary(1), auxiliary(-1), auxiliary(11), auxiliary(1 << 32), auxiliary(-1 << 63), odd, auxiliary(4), auxiliary(3), {Road: 8, Back: true},
	}}
	checkThrough(t, "circled", a, flows, []int{0, 3, 8, 10})
	a.Mine = closing(m, 1)
	checkThrough(t, "a ring closed", a, flows, []int{8})
	checkThrough(t, "without fans", api.Air{Mine: m}, flows, nil)
	a.Mine, a.Fans = m, nil
	var all []int
	for i := range 3 * api.MaxFans {
		a.Fans, all = append(a.Fans, auxiliary(9)), append(all, i)
	}
	checkThrough(t, "many fans", a, flows, all)
	a.Mine.Places[3].Height = api.MaxHeight + 1
	checkThrough(t, "a mine that is not valid", a, flows, nil)
	checkThrough(t, "fans without a mine", api.Air{Fans: []api.Fan{auxiliary(0), auxiliary(-1)}}, nil, nil)
}

// P14.2, R9: a mine with as many places and roads as are permitted, a double ring.
func TestLargest(t *testing.T) {
	m := api.Mine{Places: make([]api.Place, api.MaxPlaces)}
	var flows []api.Span
	w := want{}
	for i := range api.MaxRoads {
		from, to := i%api.MaxPlaces, (i+1)%api.MaxPlaces
		m.Roads, flows = append(m.Roads, roadOf(from, to)), append(flows, both)
		w.ways, w.circles = append(w.ways, [2]int{from, to}, [2]int{to, from}), append(w.circles, i)
	}
	for i := range api.MaxPlaces {
		w.mixed = append(w.mixed, i)
	}
	check(t, "a double ring", m, flows, w)
	// Across the surface there is no way round, but each two places that are next to each other have two roads.
	w.mixed, w.circles = w.mixed[1:], slices.DeleteFunc(w.circles, func(i int) bool { return i%64 == 0 || i%64 == 63 })
	check(t, "a double ring across the surface", surfacing(m, 0), flows, w)
	for i := range 64 {
		flows[i] = along
		flows[64+i] = still
	}
	w = want{}
	for i := range 64 {
		w.ways = append(w.ways, [2]int{i, (i + 1) % 64})
		w.circles, w.mixed = append(w.circles, i), append(w.mixed, i)
	}
	check(t, "a ring", m, flows, w)
	check(t, "a ring across the surface", surfacing(m, 63), flows, want{ways: w.ways})
}

// goes reports whether air can go along a road from one place to another one.
func goes(m api.Mine, flows []api.Span, road, from, to int) bool {
	r := m.Roads[road]
	return !r.Closed && (r.From == from && r.To == to && flows[road].High > 0 || r.To == from && r.From == to && flows[road].Low < 0)
}

// finder finds possible circles list by list, as the chapter describes them.
type finder struct {
	m             api.Mine
	flows         []api.Span
	places, roads []int
	onPlaces      map[int]bool
	onRoads       map[int]bool
}

// extend goes through all lists that begin with that of the finder.
func (f *finder) extend() {
	last := f.places[len(f.places)-1]
	for road := range f.m.Roads {
		if slices.Contains(f.roads, road) {
			continue
		}
		for next, place := range f.m.Places {
			if place.Surface || !goes(f.m, f.flows, road, last, next) {
				continue
			}
			if next == f.places[0] && len(f.places) > 1 {
				f.found(road)
			}
			if !slices.Contains(f.places, next) {
				f.places, f.roads = append(f.places, next), append(f.roads, road)
				f.extend()
				f.places, f.roads = f.places[:len(f.places)-1], f.roads[:len(f.roads)-1]
			}
		}
	}
}

// found notes the circle that a last road closes.
func (f *finder) found(last int) {
	f.onRoads[last] = true
	for _, road := range f.roads {
		f.onRoads[road] = true
	}
	for _, place := range f.places {
		f.onPlaces[place] = true
	}
}

// described returns Circles and Mixed as the chapter describes them.
func described(m api.Mine, flows []api.Span) (circles, mixed []int) {
	f := finder{m: m, flows: flows, onPlaces: map[int]bool{}, onRoads: map[int]bool{}}
	for place, p := range m.Places {
		if !p.Surface {
			f.places, f.roads = []int{place}, nil
			f.extend()
		}
	}
	for range m.Places {
		for road, r := range m.Roads {
			for _, to := range []int{r.From, r.To} {
				from := r.From + r.To - to
				if f.onPlaces[from] && goes(m, flows, road, from, to) && !m.Places[to].Surface {
					f.onPlaces[to] = true
				}
			}
		}
	}
	for road := range m.Roads {
		if f.onRoads[road] {
			circles = append(circles, road)
		}
	}
	for place := range m.Places {
		if f.onPlaces[place] {
			mixed = append(mixed, place)
		}
	}
	return circles, mixed
}

// P14.2 to P14.4: what the chapter says, for many made mines.
func TestCirclesOfMadeMines(t *testing.T) {
	m := maker(1414)
	some, all := 0, 0
	for range 6000 {
		made, flows := m.mine()
		circles, mixed := described(made, flows)
		checkCircles(t, "made", made, flows, circles)
		checkMixed(t, "made", made, flows, mixed)
		all++
		if len(circles) > 0 && len(circles) < len(made.Roads) {
			some++
		}
		if t.Failed() {
			t.Fatalf("%v with %v", made, flows)
		}
	}
	if some < all/10 {
		t.Errorf("%d of %d mines with circles and other roads", some, all)
	}
}

// within reports whether all elements of a list are in another one.
func within(a, b []int) bool {
	return !slices.ContainsFunc(a, func(n int) bool { return !slices.Contains(b, n) })
}

// The consequences of chapter 14: with wider spans no circle is lost; so also not those of flows that lie in the spans.
func TestWiderSpans(t *testing.T) {
	m := maker(77)
	more := 0
	for range 3000 {
		made, flows := m.mine()
		wider := slices.Clone(flows)
		for i := range wider {
			if wider[i].Low > wider[i].High {
				flows[i], wider[i] = still, still
			}
			// Half of the flows are exact.
			if m.below(2) == 0 {
				flows[i].Low = flows[i].High
			}
			wider[i].Low -= m.below(2)
			wider[i].High += m.below(2)
		}
		less, greater := recirculate.Circles(made, flows), recirculate.Circles(made, wider)
		if !within(less, greater) || !within(recirculate.Mixed(made, flows), recirculate.Mixed(made, wider)) {
			t.Fatalf("%v and %v, of %v with %v and %v", less, greater, made, flows, wider)
		}
		if len(greater) > len(less) {
			more++
		}
	}
	if more < 100 {
		t.Errorf("more circles only %d times", more)
	}
}
