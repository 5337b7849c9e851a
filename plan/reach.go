package plan

import (
	"slices"

	"minecontrol/api"
)

// Roads returns the roads with an end at a place, open or closed.
func Roads(m api.Mine, place int) []int {
	var l []int
	for i, r := range m.Roads {
		if r.From == place || r.To == place {
			l = append(l, i)
		}
	}
	return l
}

// Other returns the end of a road that is not the place, -1 if the road does not end there.
func Other(m api.Mine, road, place int) int {
	if !hasRoad(m, road) {
		return -1
	}
	switch r := m.Roads[road]; place {
	case r.From:
		return r.To
	case r.To:
		return r.From
	}
	return -1
}

// CutOff returns the places from which no open roads lead to the surface.
func CutOff(m api.Mine) []int {
	var l []int
	surface := func(place int) bool { return m.Places[place].Surface }
	for _, part := range Parts(m) {
		if !slices.ContainsFunc(part, surface) {
			l = append(l, part...)
		}
	}
	// Parts are in the order of their first places only: their other places can be mixed.
	slices.Sort(l)
	return l
}

// Parts divides the places into those that open roads connect.
func Parts(m api.Mine) [][]int {
	if !Valid(m) {
		return nil
	}
	var parts [][]int
	seen := make([]bool, len(m.Places))
	for place := range m.Places {
		if !seen[place] {
			parts = append(parts, part(m, place, seen))
		}
	}
	return parts
}

// part returns the places that open roads connect with the first one, and marks them as seen.
func part(m api.Mine, first int, seen []bool) []int {
	l := []int{first}
	seen[first] = true
	for i := 0; i < len(l); i++ {
		for _, road := range Roads(m, l[i]) {
			other := Other(m, road, l[i])
			if !m.Roads[road].Closed && !seen[other] {
				seen[other] = true
				l = append(l, other)
			}
		}
	}
	slices.Sort(l)
	return l
}

// hasRoad reports whether there is a road with this number.
func hasRoad(m api.Mine, road int) bool {
	return within(road, 0, len(m.Roads)-1)
}
