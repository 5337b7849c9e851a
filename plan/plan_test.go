package plan

import (
	"math"
	"reflect"
	"slices"
	"testing"

	"minecontrol/api"
)

// testRoad returns a road without errors.
func testRoad(from, to int) api.Road {
	return api.Road{From: from, To: to, Length: 300, Area: 12, Walk: true, Rest: api.Span{Low: 2, High: 5}, Lift: api.Span{Low: -7, High: 7}}
}

// testMine has a shaft 0, two places 1 and 2 in a ring with it, and a face 3 behind 2.
func testMine() api.Mine {
	return api.Mine{
		Places: []api.Place{{Height: 40, Surface: true}, {Height: -300}, {Height: -320}, {Height: -500}},
		Roads:  []api.Road{testRoad(0, 1), testRoad(1, 2), testRoad(2, 0), testRoad(3, 2)},
	}
}

// changed returns the test mine with a change.
func changed(change func(m *api.Mine)) api.Mine {
	m := testMine()
	change(&m)
	return m
}

// withPlace returns the test mine with another place 1.
func withPlace(p api.Place) api.Mine {
	return changed(func(m *api.Mine) { m.Places[1] = p })
}

// withRoad returns the test mine with a change of the road 1.
func withRoad(change func(r *api.Road)) api.Mine {
	return changed(func(m *api.Mine) { change(&m.Roads[1]) })
}

// closing returns the test mine with some roads closed.
func closing(roads ...int) api.Mine {
	return changed(func(m *api.Mine) {
		for _, i := range roads {
			m.Roads[i].Closed = true
		}
	})
}

// sameMine reports whether two mines are equal; nil and empty lists are.
func sameMine(a, b api.Mine) bool {
	return slices.Equal(a.Places, b.Places) && slices.Equal(a.Roads, b.Roads)
}

// sameParts reports whether two divisions are equal; nil and empty lists are.
func sameParts(a, b [][]int) bool {
	return slices.EqualFunc(a, b, func(x, y []int) bool { return slices.Equal(x, y) })
}

type checkCase struct {
	name string
	m    api.Mine
	want api.Errno
}

func runChecks(t *testing.T, l []checkCase) {
	t.Helper()
	for _, x := range l {
		if got := Check(x.m); got != x.want {
			t.Errorf("Check, %s: %d, want %d", x.name, got, x.want)
		}
		if got := Valid(x.m); got != (x.want == api.OK) {
			t.Errorf("Valid, %s: %t with the error %d", x.name, got, x.want)
		}
	}
}

// P1.1: how many places and roads there can be.
func TestCheckCounts(t *testing.T) {
	full := api.Mine{Places: make([]api.Place, api.MaxPlaces)}
	for i := range api.MaxRoads {
		full.Roads = append(full.Roads, testRoad(i%api.MaxPlaces, (i+1)%api.MaxPlaces))
	}
	places := full
	places.Places = make([]api.Place, api.MaxPlaces+1)
	roads := full
	roads.Roads = append(slices.Clone(full.Roads), testRoad(0, 1))
	runChecks(t, []checkCase{
		{"ordinary", testMine(), api.OK},
		{"nothing", api.Mine{}, api.OK},
		{"empty lists", api.Mine{Places: []api.Place{}, Roads: []api.Road{}}, api.OK},
		{"full", full, api.OK},
		{"a place too many", places, api.ErrLimit},
		{"a road too many", roads, api.ErrLimit},
	})
}

// P1.1: what a place has to be.
func TestCheckPlaces(t *testing.T) {
	runChecks(t, []checkCase{
		{"highest", withPlace(api.Place{Height: api.MaxHeight}), api.OK},
		{"too high", withPlace(api.Place{Height: api.MaxHeight + 1}), api.ErrRange},
		{"deepest", withPlace(api.Place{Height: -api.MaxHeight}), api.OK},
		{"too deep", withPlace(api.Place{Height: -api.MaxHeight - 1}), api.ErrRange},
		{"surface too high", withPlace(api.Place{Height: api.MaxHeight + 1, Surface: true}), api.ErrRange},
		{"greatest number", withPlace(api.Place{Height: math.MaxInt}), api.ErrRange},
		{"least number", withPlace(api.Place{Height: math.MinInt}), api.ErrRange},
		{"only the first", changed(func(m *api.Mine) { m.Places[0].Height = math.MaxInt }), api.ErrRange},
		{"only the last", changed(func(m *api.Mine) { m.Places[3].Height = math.MaxInt }), api.ErrRange},
	})
}

// P1.1: between which places a road leads.
func TestCheckEnds(t *testing.T) {
	runChecks(t, []checkCase{
		{"from the last", withRoad(func(r *api.Road) { r.From = 3 }), api.OK},
		{"to the last", withRoad(func(r *api.Road) { r.To = 3 }), api.OK},
		{"from the first", withRoad(func(r *api.Road) { r.From = 0 }), api.OK},
		{"to the first", withRoad(func(r *api.Road) { r.To = 0 }), api.OK},
		{"from behind the last", withRoad(func(r *api.Road) { r.From = 4 }), api.ErrRoad},
		{"to behind the last", withRoad(func(r *api.Road) { r.To = 4 }), api.ErrRoad},
		{"from none", withRoad(func(r *api.Road) { r.From = -1 }), api.ErrRoad},
		{"to none", withRoad(func(r *api.Road) { r.To = -1 }), api.ErrRoad},
		{"from far", withRoad(func(r *api.Road) { r.From = math.MaxInt }), api.ErrRoad},
		{"to far", withRoad(func(r *api.Road) { r.To = math.MinInt }), api.ErrRoad},
		{"to where it begins", withRoad(func(r *api.Road) { r.To = r.From }), api.ErrRoad},
		{"closed, from none", withRoad(func(r *api.Road) { r.From, r.Closed = -1, true }), api.ErrRoad},
		{"no places", api.Mine{Roads: []api.Road{testRoad(0, 1)}}, api.ErrRoad},
		{"two between the same places", withRoad(func(r *api.Road) { r.From, r.To = 0, 1 }), api.OK},
	})
}

// P1.1: length and area of a road.
func TestCheckSizes(t *testing.T) {
	runChecks(t, []checkCase{
		{"shortest", withRoad(func(r *api.Road) { r.Length = 1 }), api.OK},
		{"no length", withRoad(func(r *api.Road) { r.Length = 0 }), api.ErrRange},
		{"length below 0", withRoad(func(r *api.Road) { r.Length = math.MinInt }), api.ErrRange},
		{"longest", withRoad(func(r *api.Road) { r.Length = api.MaxLength }), api.OK},
		{"too long", withRoad(func(r *api.Road) { r.Length = api.MaxLength + 1 }), api.ErrRange},
		{"narrowest", withRoad(func(r *api.Road) { r.Area = 1 }), api.OK},
		{"no area", withRoad(func(r *api.Road) { r.Area = 0 }), api.ErrRange},
		{"area below 0", withRoad(func(r *api.Road) { r.Area = -1 }), api.ErrRange},
		{"widest", withRoad(func(r *api.Road) { r.Area = api.MaxArea }), api.OK},
		{"too wide", withRoad(func(r *api.Road) { r.Area = api.MaxArea + 1 }), api.ErrRange},
		{"closed, too long", withRoad(func(r *api.Road) { r.Length, r.Closed = api.MaxLength+1, true }), api.ErrRange},
		{"no way for people", withRoad(func(r *api.Road) { r.Walk = false }), api.OK},
	})
}

// P1.1: the spans of a road.
func TestCheckSpans(t *testing.T) {
	rest := func(low, high int) api.Mine {
		return withRoad(func(r *api.Road) { r.Rest = api.Span{Low: low, High: high} })
	}
	lift := func(low, high int) api.Mine {
		return withRoad(func(r *api.Road) { r.Lift = api.Span{Low: low, High: high} })
	}
	runChecks(t, []checkCase{
		{"all rests", rest(1, api.MaxRest), api.OK},
		{"least rest", rest(1, 1), api.OK},
		{"greatest rest", rest(api.MaxRest, api.MaxRest), api.OK},
		{"rest 0", rest(0, 1), api.ErrRange},
		{"rest below 0", rest(-1, 1), api.ErrRange},
		{"too much rest", rest(1, api.MaxRest+1), api.ErrRange},
		{"no rest in between", rest(3, 2), api.ErrRange},
		{"unknown rest", rest(-api.Unbounded, api.Unbounded), api.ErrRange},
		{"all lifts", lift(-api.MaxLift, api.MaxLift), api.OK},
		{"least lift", lift(-api.MaxLift, -api.MaxLift), api.OK},
		{"greatest lift", lift(api.MaxLift, api.MaxLift), api.OK},
		{"no lift", lift(0, 0), api.OK},
		{"lift too low", lift(-api.MaxLift-1, 0), api.ErrRange},
		{"lift too high", lift(0, api.MaxLift+1), api.ErrRange},
		{"no lift in between", lift(1, 0), api.ErrRange},
		{"extreme lift", lift(math.MinInt, math.MaxInt), api.ErrRange},
	})
}

// P1.1: which error comes first.
func TestCheckOrder(t *testing.T) {
	wrongPlace := api.Place{Height: api.MaxHeight + 1}
	manyPlaces := api.Mine{Places: slices.Repeat([]api.Place{wrongPlace}, api.MaxPlaces+1)}
	runChecks(t, []checkCase{
		{"places: limit before range", manyPlaces, api.ErrLimit},
		{"roads: limit before range", api.Mine{Places: []api.Place{wrongPlace}, Roads: make([]api.Road, api.MaxRoads+1)}, api.ErrLimit},
		{"roads: limit before road", api.Mine{Roads: make([]api.Road, api.MaxRoads+1)}, api.ErrLimit},
		{"places before roads", changed(func(m *api.Mine) { m.Places[3], m.Roads[0].From = wrongPlace, 9 }), api.ErrRange},
		{"ends before length", withRoad(func(r *api.Road) { r.To, r.Length = 9, 0 }), api.ErrRoad},
		{"equal ends before rest", withRoad(func(r *api.Road) { r.To, r.Rest.Low = r.From, 0 }), api.ErrRoad},
		{"length of an earlier road", changed(func(m *api.Mine) { m.Roads[1].Length, m.Roads[2].From = 0, 9 }), api.ErrRange},
		{"lift of an earlier road", changed(func(m *api.Mine) { m.Roads[1].Lift.Low, m.Roads[2].From = 8, 9 }), api.ErrRange},
		{"ends of an earlier road", changed(func(m *api.Mine) { m.Roads[1].From, m.Roads[2].Length = 9, 0 }), api.ErrRoad},
	})
}

type applyCase struct {
	name string
	m    api.Mine
	e    api.Edit
	want api.Mine
	code api.Errno
}

func runApplies(t *testing.T, l []applyCase) {
	t.Helper()
	for _, x := range l {
		m, code := Apply(x.m, x.e)
		if code != x.code {
			t.Errorf("%s: error %d, want %d", x.name, code, x.code)
		}
		if !sameMine(m, x.want) {
			t.Errorf("%s: %v, want %v", x.name, m, x.want)
		}
	}
}

// P1.2: what each kind of edit does.
func TestApply(t *testing.T) {
	place := api.Place{Height: 60, Surface: true}
	span := api.Span{Low: 3, High: 4}
	down := api.Span{Low: -9, High: -8}
	spur := testRoad(3, 0)
	shut := testRoad(1, 3)
	shut.Closed = true
	added := changed(func(m *api.Mine) { m.Places = append(m.Places, place) })
	runApplies(t, []applyCase{
		{"place", testMine(), api.Edit{Kind: api.EditPlace, Place: place}, added, api.OK},
		{"first place", api.Mine{}, api.Edit{Kind: api.EditPlace}, api.Mine{Places: []api.Place{{}}}, api.OK},
		{"road", testMine(), api.Edit{Kind: api.EditRoad, New: spur}, changed(func(m *api.Mine) { m.Roads = append(m.Roads, spur) }), api.OK},
		{"closed road", testMine(), api.Edit{Kind: api.EditRoad, New: shut}, changed(func(m *api.Mine) { m.Roads = append(m.Roads, shut) }), api.OK},
		{"close the first", testMine(), api.Edit{Kind: api.EditClose, Road: 0}, closing(0), api.OK},
		{"close the last", testMine(), api.Edit{Kind: api.EditClose, Road: 3}, closing(3), api.OK},
		{"open", closing(1, 2), api.Edit{Kind: api.EditOpen, Road: 2}, closing(1), api.OK},
		{"rest", testMine(), api.Edit{Kind: api.EditRest, Road: 1, Span: span}, withRoad(func(r *api.Road) { r.Rest = span }), api.OK},
		{"lift", testMine(), api.Edit{Kind: api.EditLift, Road: 1, Span: down}, withRoad(func(r *api.Road) { r.Lift = down }), api.OK},
		{"rest of a closed road", withRoad(func(r *api.Road) { r.Closed = true }), api.Edit{Kind: api.EditRest, Road: 1, Span: span}, withRoad(func(r *api.Road) { r.Rest, r.Closed = span, true }), api.OK},
		{"rest that it has", testMine(), api.Edit{Kind: api.EditRest, Road: 1, Span: testRoad(0, 1).Rest}, testMine(), api.OK},
	})
}

// P1.2: fields that the kind does not name do not matter.
func TestApplyOtherFields(t *testing.T) {
	place := api.Place{Height: 60}
	span := api.Span{Low: 3, High: 4}
	none := api.Span{Low: 9, High: -9}
	badPlace := api.Place{Height: math.MaxInt}
	bad := api.Road{From: -5, To: 99}
	spur := testRoad(3, 0)
	runApplies(t, []applyCase{
		{"place", testMine(), api.Edit{Kind: api.EditPlace, Place: place, New: bad, Road: -3, Span: none}, changed(func(m *api.Mine) { m.Places = append(m.Places, place) }), api.OK},
		{"road", testMine(), api.Edit{Kind: api.EditRoad, Place: badPlace, New: spur, Road: 99, Span: none}, changed(func(m *api.Mine) { m.Roads = append(m.Roads, spur) }), api.OK},
		{"close", testMine(), api.Edit{Kind: api.EditClose, Place: badPlace, New: bad, Road: 2, Span: none}, closing(2), api.OK},
		{"open", closing(2), api.Edit{Kind: api.EditOpen, Place: badPlace, New: bad, Road: 2, Span: none}, testMine(), api.OK},
		{"rest", testMine(), api.Edit{Kind: api.EditRest, Place: badPlace, New: bad, Road: 1, Span: span}, withRoad(func(r *api.Road) { r.Rest = span }), api.OK},
		{"lift", testMine(), api.Edit{Kind: api.EditLift, Place: badPlace, New: bad, Road: 1, Span: span}, withRoad(func(r *api.Road) { r.Lift = span }), api.OK},
	})
}

// P1.2: the errors, each with the mine zero.
func TestApplyErrors(t *testing.T) {
	wrong := withPlace(api.Place{Height: api.MaxHeight + 1})
	fullPlaces := api.Mine{Places: make([]api.Place, api.MaxPlaces)}
	fullRoads := changed(func(m *api.Mine) { m.Roads = slices.Repeat([]api.Road{testRoad(0, 1)}, api.MaxRoads) })
	l := []applyCase{
		{"mine before kind", wrong, api.Edit{Kind: 9}, api.Mine{}, api.ErrRange},
		{"mine before road", api.Mine{Roads: make([]api.Road, api.MaxRoads+1)}, api.Edit{Kind: api.EditClose, Road: -1}, api.Mine{}, api.ErrLimit},
		{"wrong place stays wrong", wrong, api.Edit{Kind: api.EditPlace}, api.Mine{}, api.ErrRange},
		{"mine not mended", withRoad(func(r *api.Road) { r.Rest.Low = 0 }), api.Edit{Kind: api.EditRest, Road: 1, Span: api.Span{Low: 1, High: 1}}, api.Mine{}, api.ErrRange},
		{"kind 0", testMine(), api.Edit{}, api.Mine{}, api.ErrKind},
		{"kind 7", testMine(), api.Edit{Kind: 7}, api.Mine{}, api.ErrKind},
		{"kind before road", testMine(), api.Edit{Kind: -1, Road: 99}, api.Mine{}, api.ErrKind},
		{"closed already", closing(1), api.Edit{Kind: api.EditClose, Road: 1}, api.Mine{}, api.ErrState},
		{"open already", testMine(), api.Edit{Kind: api.EditOpen, Road: 1}, api.Mine{}, api.ErrState},
		{"road before rest", testMine(), api.Edit{Kind: api.EditRest, Road: 4, Span: api.Span{Low: 9, High: 8}}, api.Mine{}, api.ErrRoad},
		{"rest 0", testMine(), api.Edit{Kind: api.EditRest, Road: 1}, api.Mine{}, api.ErrRange},
		{"lift turned", testMine(), api.Edit{Kind: api.EditLift, Road: 1, Span: api.Span{Low: 1, High: 0}}, api.Mine{}, api.ErrRange},
		{"place too high", testMine(), api.Edit{Kind: api.EditPlace, Place: api.Place{Height: api.MaxHeight + 1}}, api.Mine{}, api.ErrRange},
		{"road to nowhere", testMine(), api.Edit{Kind: api.EditRoad, New: testRoad(0, 4)}, api.Mine{}, api.ErrRoad},
		{"road without length", testMine(), api.Edit{Kind: api.EditRoad, New: api.Road{To: 1, Area: 1, Rest: api.Span{Low: 1, High: 1}}}, api.Mine{}, api.ErrRange},
		{"a place too many", fullPlaces, api.Edit{Kind: api.EditPlace, Place: api.Place{Height: math.MaxInt}}, api.Mine{}, api.ErrLimit},
		{"a road too many", fullRoads, api.Edit{Kind: api.EditRoad, New: api.Road{From: 9}}, api.Mine{}, api.ErrLimit},
	}
	for _, kind := range []int{api.EditClose, api.EditOpen, api.EditRest, api.EditLift} {
		for _, road := range []int{-1, 4, math.MinInt, math.MaxInt} {
			e := api.Edit{Kind: kind, Road: road, Span: api.Span{Low: 1, High: 1}}
			l = append(l, applyCase{"no road", testMine(), e, api.Mine{}, api.ErrRoad})
		}
	}
	runApplies(t, l)
}

// P1.2 with R2: the mine that is handed in stays as it was, behind its lists too.
func TestApplyLeavesArguments(t *testing.T) {
	spare := testMine()
	spare.Places = append(spare.Places, api.Place{Height: 77})[:4]
	spare.Roads = append(spare.Roads, testRoad(0, 3))[:4]
	for _, e := range []api.Edit{
		{Kind: api.EditPlace},
		{Kind: api.EditRoad, New: testRoad(3, 1)},
		{Kind: api.EditClose, Road: 2},
		{Kind: api.EditRest, Road: 2, Span: api.Span{Low: 1, High: 1}},
		{Kind: api.EditLift, Road: 2, Span: api.Span{Low: 1, High: 1}},
	} {
		one, _ := Apply(spare, e)
		all, _, _ := All(spare, []api.Edit{e})
		for _, m := range []api.Mine{one, all} {
			m.Places[0].Height, m.Roads[0].Length = 1, 1
		}
		if !sameMine(spare, testMine()) {
			t.Errorf("kind %d: the mine is %v", e.Kind, spare)
		}
		if spare.Places[:5][4] != (api.Place{Height: 77}) || spare.Roads[:5][4] != testRoad(0, 3) {
			t.Errorf("kind %d: the spare capacity was changed", e.Kind)
		}
	}
}

// P1.2: All goes from one edit to the next, and stops at the first one that is not possible.
func TestAll(t *testing.T) {
	down := api.Place{Height: -800}
	wrong := withPlace(api.Place{Height: api.MaxHeight + 1})
	sink := []api.Edit{{Kind: api.EditPlace, Place: down}, {Kind: api.EditRoad, New: testRoad(3, 4)}, {Kind: api.EditClose, Road: 4}}
	sunk := changed(func(m *api.Mine) {
		m.Places = append(m.Places, down)
		m.Roads = append(m.Roads, testRoad(3, 4))
		m.Roads[4].Closed = true
	})
	shut := api.Edit{Kind: api.EditClose, Road: 0}
	l := []struct {
		name  string
		m     api.Mine
		edits []api.Edit
		want  api.Mine
		n     int
		code  api.Errno
	}{
		{"none", testMine(), nil, testMine(), 0, api.OK},
		{"empty list", testMine(), []api.Edit{}, testMine(), 0, api.OK},
		{"three", testMine(), sink, sunk, 3, api.OK},
		{"the road before its place", testMine(), sink[1:], testMine(), 0, api.ErrRoad},
		{"the third twice", testMine(), append(slices.Clone(sink), sink[2]), sunk, 3, api.ErrState},
		{"the second is no kind", testMine(), []api.Edit{shut, {Kind: 8}, {Kind: api.EditOpen}}, closing(0), 1, api.ErrKind},
		{"the second has no road", testMine(), []api.Edit{shut, {Kind: api.EditOpen, Road: 9}}, closing(0), 1, api.ErrRoad},
		{"the second makes no mine", testMine(), []api.Edit{shut, {Kind: api.EditRest}, {Kind: 8}}, closing(0), 1, api.ErrRange},
		{"no mine", wrong, sink, wrong, 0, api.ErrRange},
		{"no mine and no edits", wrong, nil, wrong, 0, api.OK},
	}
	for _, x := range l {
		m, n, code := All(x.m, x.edits)
		if n != x.n || code != x.code {
			t.Errorf("%s: %d edits with the error %d, want %d with %d", x.name, n, code, x.n, x.code)
		}
		if !sameMine(m, x.want) {
			t.Errorf("%s: %v, want %v", x.name, m, x.want)
		}
	}
}

// P1.2: All gives a mine of its own also where nothing was applied.
func TestAllNewMemory(t *testing.T) {
	m := testMine()
	for _, l := range [][]api.Edit{nil, {{Kind: api.EditOpen}}} {
		got, _, _ := All(m, l)
		got.Places[0].Height, got.Roads[0].Length = 1, 1
		if !sameMine(m, testMine()) {
			t.Errorf("%v: the result shares memory with the mine", l)
		}
	}
}

// oddMine is not valid: its roads end where there are no places, or where they began.
func oddMine() api.Mine {
	return api.Mine{
		Places: []api.Place{{Surface: true}},
		Roads:  []api.Road{{From: -1, To: 0}, {From: 0, To: 9}, {From: 2, To: 2}, {From: 9, To: -1}, {From: math.MinInt, To: math.MaxInt}},
	}
}

// P1.3: the roads of a place.
func TestRoads(t *testing.T) {
	many := api.Mine{Roads: make([]api.Road, api.MaxRoads+1)}
	all := make([]int, api.MaxRoads+1)
	for i := range all {
		all[i] = i
	}
	l := []struct {
		name  string
		m     api.Mine
		place int
		want  []int
	}{
		{"surface", testMine(), 0, []int{0, 2}},
		{"three roads", testMine(), 2, []int{1, 2, 3}},
		{"only from", testMine(), 3, []int{3}},
		{"closed roads", closing(0, 1, 2, 3), 2, []int{1, 2, 3}},
		{"behind the last place", testMine(), 4, nil},
		{"none", testMine(), -1, nil},
		{"no mine", api.Mine{}, 0, nil},
		{"odd: none", oddMine(), -1, []int{0, 3}},
		{"odd: no place", oddMine(), 9, []int{1, 3}},
		{"odd: a ring is one road", oddMine(), 2, []int{2}},
		{"odd: least", oddMine(), math.MinInt, []int{4}},
		{"too many", many, 0, all},
	}
	for _, x := range l {
		if got := Roads(x.m, x.place); !slices.Equal(got, x.want) {
			t.Errorf("%s: %v, want %v", x.name, got, x.want)
		}
	}
}

// P1.3: the other end of a road.
func TestOther(t *testing.T) {
	l := []struct {
		name              string
		m                 api.Mine
		road, place, want int
	}{
		{"from", testMine(), 3, 3, 2},
		{"to", testMine(), 3, 2, 3},
		{"to the surface", testMine(), 2, 2, 0},
		{"from the surface", testMine(), 0, 0, 1},
		{"closed", closing(0), 0, 1, 0},
		{"another place", testMine(), 0, 2, -1},
		{"no place", testMine(), 0, 4, -1},
		{"no road below", testMine(), -1, 0, -1},
		{"no road above", testMine(), 4, 0, -1},
		{"no road far below", testMine(), math.MinInt, 0, -1},
		{"no road far above", testMine(), math.MaxInt, 0, -1},
		{"no mine", api.Mine{}, 0, 0, -1},
		{"odd: from none", oddMine(), 0, -1, 0},
		{"odd: to no place", oddMine(), 1, 0, 9},
		{"odd: from no place", oddMine(), 1, 9, 0},
		{"odd: a ring", oddMine(), 2, 2, 2},
		{"odd: not at it", oddMine(), 2, 0, -1},
		{"odd: extreme", oddMine(), 4, math.MaxInt, math.MinInt},
	}
	for _, x := range l {
		if got := Other(x.m, x.road, x.place); got != x.want {
			t.Errorf("%s: %d, want %d", x.name, got, x.want)
		}
	}
}

// mixed has two parts that alternate, both without a surface: 1, 3 and 5, and 2, 4.
func mixed() api.Mine {
	return api.Mine{
		Places: []api.Place{{Surface: true}, {}, {}, {}, {}, {}},
		Roads:  []api.Road{testRoad(5, 1), testRoad(4, 2), testRoad(5, 3)},
	}
}

// P1.4: what is cut off, and the parts.
func TestCutOffAndParts(t *testing.T) {
	surface := func(m api.Mine, place int) api.Mine {
		m.Places[place].Surface = true
		return m
	}
	tooLong := closing(3)
	tooLong.Roads[0].Length = api.MaxLength + 1
	noWalk := testMine()
	for i := range noWalk.Roads {
		noWalk.Roads[i].Walk = false
	}
	l := []struct {
		name  string
		m     api.Mine
		cut   []int
		parts [][]int
	}{
		{"example 1, open", api.Mine{Places: []api.Place{{Surface: true}, {}}, Roads: []api.Road{testRoad(0, 1)}}, nil, [][]int{{0, 1}}},
		{"example 1, closed", api.Mine{Places: []api.Place{{Surface: true}, {}}, Roads: []api.Road{{From: 0, To: 1, Length: 1, Area: 1, Closed: true, Rest: api.Span{Low: 1, High: 1}}}}, []int{1}, [][]int{{0}, {1}}},
		{"nothing", api.Mine{}, nil, nil},
		{"whole", testMine(), nil, [][]int{{0, 1, 2, 3}}},
		{"no one may walk", noWalk, nil, [][]int{{0, 1, 2, 3}}},
		{"half of the ring", closing(0), nil, [][]int{{0, 1, 2, 3}}},
		{"the face", closing(3), []int{3}, [][]int{{0, 1, 2}, {3}}},
		{"all but the shaft", closing(0, 2), []int{1, 2, 3}, [][]int{{0}, {1, 2, 3}}},
		{"only 1", closing(0, 1), []int{1}, [][]int{{0, 2, 3}, {1}}},
		{"all closed", closing(0, 1, 2, 3), []int{1, 2, 3}, [][]int{{0}, {1}, {2}, {3}}},
		{"all closed, another shaft", surface(closing(0, 1, 2, 3), 2), []int{1, 3}, [][]int{{0}, {1}, {2}, {3}}},
		{"the face with a shaft", surface(closing(3), 3), nil, [][]int{{0, 1, 2}, {3}}},
		{"no surface", withPlace(api.Place{}), nil, [][]int{{0, 1, 2, 3}}},
		{"no shaft", changed(func(m *api.Mine) { m.Places[0].Surface = false }), []int{0, 1, 2, 3}, [][]int{{0, 1, 2, 3}}},
		{"places without roads", api.Mine{Places: []api.Place{{}, {Surface: true}, {}}}, []int{0, 2}, [][]int{{0}, {1}, {2}}},
		{"mixed", mixed(), []int{1, 2, 3, 4, 5}, [][]int{{0}, {1, 3, 5}, {2, 4}}},
		{"mixed, a shaft at 4", surface(mixed(), 4), []int{1, 3, 5}, [][]int{{0}, {1, 3, 5}, {2, 4}}},
		{"not valid", tooLong, nil, nil},
		{"odd", oddMine(), nil, nil},
		{"too many places", api.Mine{Places: make([]api.Place, api.MaxPlaces+1)}, nil, nil},
	}
	for _, x := range l {
		if got := CutOff(x.m); !slices.Equal(got, x.cut) {
			t.Errorf("%s: cut off %v, want %v", x.name, got, x.cut)
		}
		if got := Parts(x.m); !sameParts(got, x.parts) {
			t.Errorf("%s: parts %v, want %v", x.name, got, x.parts)
		}
	}
}

// chain is a full mine: its places are a chain with its shaft at the end, in which the places with odd numbers come first.
func chain() api.Mine {
	m := api.Mine{Places: make([]api.Place, api.MaxPlaces)}
	place := func(i int) int { return (2*i + 1) % (api.MaxPlaces + 1) }
	for i := range api.MaxPlaces - 1 {
		m.Roads = append(m.Roads, testRoad(place(i), place(i+1)))
	}
	m.Places[place(api.MaxPlaces-1)].Surface = true
	return m
}

// P1.4: the greatest mine with the longest ways.
func TestLongestWays(t *testing.T) {
	m := chain()
	if got := Check(m); got != api.OK {
		t.Fatalf("the chain has the error %d", got)
	}
	if got := Parts(m); len(got) != 1 || len(got[0]) != api.MaxPlaces || !slices.IsSorted(got[0]) {
		t.Errorf("the chain has the parts %v", got)
	}
	if got := CutOff(m); len(got) != 0 {
		t.Errorf("cut off: %v", got)
	}
	m.Roads[api.MaxPlaces-2].Closed = true
	if got := CutOff(m); len(got) != api.MaxPlaces-1 || !slices.IsSorted(got) {
		t.Errorf("cut off behind the shaft: %v", got)
	}
}

// made returns a mine that a number describes: some places with some roads, open and closed.
func made(n uint64) api.Mine {
	next := func(most int) int {
		n = n*6364136223846793005 + 1442695040888963407
		return int(n>>33) % most
	}
	m := api.Mine{Places: make([]api.Place, 2+next(8))}
	for i := range m.Places {
		m.Places[i].Surface = next(5) == 0
	}
	for range next(12) {
		from := next(len(m.Places))
		r := testRoad(from, (from+1+next(len(m.Places)-1))%len(m.Places))
		r.Closed = next(3) == 0
		m.Roads = append(m.Roads, r)
	}
	return m
}

// joined tells for each two places, by the definition, whether open roads connect them.
func joined(m api.Mine) [][]bool {
	t := make([][]bool, len(m.Places))
	for i := range t {
		t[i] = make([]bool, len(m.Places))
		t[i][i] = true
	}
	for _, r := range m.Roads {
		if !r.Closed {
			t[r.From][r.To], t[r.To][r.From] = true, true
		}
	}
	for k := range t {
		for i := range t {
			for j := range t {
				t[i][j] = t[i][j] || t[i][k] && t[k][j]
			}
		}
	}
	return t
}

// P1.4: many mines, held against the definitions.
func TestDefinitions(t *testing.T) {
	for n := range uint64(2000) {
		m := made(n)
		together := joined(m)
		var cut []int
		var parts [][]int
		for i := range m.Places {
			lost := true
			var part []int
			for j := range m.Places {
				lost = lost && !(together[i][j] && m.Places[j].Surface)
				if together[i][j] {
					part = append(part, j)
				}
			}
			if lost {
				cut = append(cut, i)
			}
			if part[0] == i {
				parts = append(parts, part)
			}
		}
		if got := CutOff(m); !slices.Equal(got, cut) {
			t.Fatalf("mine %d: cut off %v, want %v", n, got, cut)
		}
		if got := Parts(m); !sameParts(got, parts) {
			t.Fatalf("mine %d: parts %v, want %v", n, got, parts)
		}
	}
}

// Consequences: closing and opening again changes nothing; opening cuts nothing off, and closing connects nothing.
func TestConsequences(t *testing.T) {
	for n := range uint64(500) {
		m := made(n)
		for road, r := range m.Roads {
			there, back := api.EditClose, api.EditOpen
			if r.Closed {
				there, back = back, there
			}
			other, code := Apply(m, api.Edit{Kind: there, Road: road})
			if code != api.OK {
				t.Fatalf("mine %d, road %d: error %d", n, road, code)
			}
			again, code := Apply(other, api.Edit{Kind: back, Road: road})
			if code != api.OK || !sameMine(again, m) {
				t.Fatalf("mine %d, road %d: there and back it is %v", n, road, again)
			}
			open, closed := m, other
			if r.Closed {
				open, closed = other, m
			}
			for _, place := range CutOff(open) {
				if !slices.Contains(CutOff(closed), place) {
					t.Fatalf("mine %d, road %d: opening it cuts %d off", n, road, place)
				}
			}
			if len(Parts(closed)) < len(Parts(open)) {
				t.Fatalf("mine %d, road %d: closing it connects", n, road)
			}
		}
	}
}

// P1.3 and P1.4 with R2: asking changes nothing, and no two parts share memory.
func TestQuestionsLeaveArguments(t *testing.T) {
	m := mixed()
	parts := Parts(m)
	for i := range parts {
		parts[i] = append(parts[i], 99)
	}
	if want := [][]int{{0, 99}, {1, 3, 5, 99}, {2, 4, 99}}; !sameParts(parts, want) {
		t.Errorf("parts share memory: %v", parts)
	}
	Check(m)
	CutOff(m)
	Roads(m, 5)[0] = 99
	Other(m, 0, 5)
	if !reflect.DeepEqual(m, mixed()) {
		t.Errorf("the mine was changed: %v", m)
	}
}
