package recirculate_test

import (
	"slices"
	"testing"

	"minecontrol/api"
	"minecontrol/recirculate"
)

// spanOf returns a span.
func spanOf(low, high int) api.Span { return api.Span{Low: low, High: high} }

// Spans of flows along a road, against it, in both directions, and in none.
var (
	along   = spanOf(1, 9)
	against = spanOf(-9, -1)
	both    = spanOf(-9, 9)
	still   = spanOf(0, 0)
)

// flowsOf returns a list of spans.
func flowsOf(l ...api.Span) []api.Span { return l }

// roadOf returns an open road.
func roadOf(from, to int) api.Road {
	return api.Road{From: from, To: to, Length: 100, Area: 9, Rest: spanOf(1, 2)}
}

// mineOf returns a mine with so many places, of which only the first one is of the surface, and with open roads between pairs of them.
func mineOf(places int, ends ...[2]int) api.Mine {
	m := api.Mine{Places: make([]api.Place, places)}
	m.Places[0].Surface = true
	for _, e := range ends {
		m.Roads = append(m.Roads, roadOf(e[0], e[1]))
	}
	return m
}

// closing returns a mine with some roads closed.
func closing(m api.Mine, roads ...int) api.Mine {
	m.Roads = slices.Clone(m.Roads)
	for _, road := range roads {
		m.Roads[road].Closed = true
	}
	return m
}

// surfacing returns a mine with some more places of the surface.
func surfacing(m api.Mine, places ...int) api.Mine {
	m.Places = slices.Clone(m.Places)
	for _, place := range places {
		m.Places[place].Surface = true
	}
	return m
}

// auxiliary returns an auxiliary fan in a road.
func auxiliary(road int) api.Fan { return api.Fan{Road: road, Auxiliary: true} }

// circled returns a mine with two rings below ground and what lies around them, and flows: the ring of 1, 2 and 3 (roads 1 to 3) sends air to 4 (road 4), from there on to 5 (road 5), and over the surface 6 (roads 6 and 7) to the place 7; 8 and 9 are a pair (roads 8 and 9) that gets air from 7 (road 10). The road 0 leads down to 1.
func circled() (api.Mine, []api.Span) {
	m := mineOf(10, [2]int{0, 1}, [2]int{1, 2}, [2]int{3, 2}, [2]int{3, 1}, [2]int{3, 4}, [2]int{5, 4}, [2]int{5, 6}, [2]int{6, 7}, [2]int{8, 9}, [2]int{8, 9}, [2]int{7, 8})
	return surfacing(m, 6), flowsOf(along, along, against, both, along, against, along, along, both, both, along)
}

// want is what is expected of a mine and flows.
type want struct {
	ways           [][2]int
	circles, mixed []int
}

// check checks what Ways, Circles, Mixed and Through answer.
func check(t *testing.T, name string, m api.Mine, flows []api.Span, w want) {
	t.Helper()
	if got := recirculate.Ways(m, flows); !slices.Equal(got, w.ways) {
		t.Errorf("Ways, %s: %v, want %v", name, got, w.ways)
	}
	checkCircles(t, name, m, flows, w.circles)
	checkMixed(t, name, m, flows, w.mixed)
}

// checkCircles checks what Circles and Through answer, Through with an auxiliary fan and then another one in each road.
func checkCircles(t *testing.T, name string, m api.Mine, flows []api.Span, want []int) {
	t.Helper()
	if got := recirculate.Circles(m, flows); !slices.Equal(got, want) {
		t.Errorf("Circles, %s: %v, want %v", name, got, want)
	}
	a := api.Air{Mine: m}
	for road := range m.Roads {
		a.Fans = append(a.Fans, auxiliary(road), api.Fan{Road: road})
	}
	var fans []int
	for _, road := range want {
		fans = append(fans, 2*road)
	}
	checkThrough(t, name, a, flows, fans)
}

// checkMixed checks what Mixed answers.
func checkMixed(t *testing.T, name string, m api.Mine, flows []api.Span, want []int) {
	t.Helper()
	if got := recirculate.Mixed(m, flows); !slices.Equal(got, want) {
		t.Errorf("Mixed, %s: %v, want %v", name, got, want)
	}
}

// checkThrough checks what Through answers.
func checkThrough(t *testing.T, name string, a api.Air, flows []api.Span, want []int) {
	t.Helper()
	if got := recirculate.Through(a, flows); !slices.Equal(got, want) {
		t.Errorf("Through, %s: %v, want %v", name, got, want)
	}
}

// maker makes numbers that follow one another without a rule that shows.
type maker uint64

// below returns a number from 0 to n - 1.
func (m *maker) below(n int) int {
	*m = *m*6364136223846793005 + 1442695040888963407
	return int(*m >> 33 % maker(n))
}

// span returns a span with small ends, one of ten without a number.
func (m *maker) span() api.Span {
	s := spanOf(m.below(5)-2, m.below(5)-2)
	if s.Low > s.High && m.below(4) > 0 {
		s.Low, s.High = s.High, s.Low
	}
	return s
}

// mine returns a small mine, of which some places are of the surface and some roads closed, and flows.
func (m *maker) mine() (api.Mine, []api.Span) {
	places := 2 + m.below(5)
	made := api.Mine{Places: make([]api.Place, places)}
	for i := range made.Places {
		made.Places[i].Surface = m.below(6) == 0
	}
	var flows []api.Span
	for range m.below(10) {
		from := m.below(places)
		r := roadOf(from, (from+1+m.below(places-1))%places)
		r.Closed = m.below(10) == 0
		made.Roads = append(made.Roads, r)
		flows = append(flows, m.span())
	}
	return made, flows
}
