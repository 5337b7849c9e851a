package survey

import (
	"strconv"
	"strings"

	"minecontrol/api"
)

// readSum returns the value of a sum line, and whether the line, without its end, is one.
func readSum(text string) (int, bool) {
	w := strings.Split(text, " ")
	sum := 0
	if w[0] != "sum" || !numbers(w[1:], &sum) {
		return 0, false
	}
	return sum, true
}

// readEdit returns the edit for which a line without its end stands, and whether there is one.
func readEdit(text string) (api.Edit, bool) {
	w := strings.Split(text, " ")
	e := api.Edit{Kind: kind(w[0])}
	ok := false
	switch w := w[1:]; e.Kind {
	case api.EditPlace:
		ok = readPlace(w, &e.Place)
	case api.EditRoad:
		ok = readRoad(w, &e.New)
	case api.EditClose, api.EditOpen:
		ok = numbers(w, &e.Road)
	case api.EditRest, api.EditLift:
		ok = numbers(w, &e.Road, &e.Span.Low, &e.Span.High)
	}
	if !ok {
		return api.Edit{}, false
	}
	return e, true
}

// kind returns the kind of edit whose lines begin with a word, 0 if none do.
func kind(word string) int {
	switch word {
	case "place":
		return api.EditPlace
	case "road":
		return api.EditRoad
	case "close":
		return api.EditClose
	case "open":
		return api.EditOpen
	case "rest":
		return api.EditRest
	case "lift":
		return api.EditLift
	}
	return 0
}

// readPlace sets a place to what words say, and reports whether they say one.
func readPlace(w []string, p *api.Place) bool {
	return len(w) == 2 && numbers(w[:1], &p.Height) && chosen(w[1], "surface", "below", &p.Surface)
}

// readRoad sets a road to what words say, and reports whether they say one.
func readRoad(w []string, r *api.Road) bool {
	return len(w) == 9 && numbers(w[:4], &r.From, &r.To, &r.Length, &r.Area) &&
		chosen(w[4], "walk", "machine", &r.Walk) &&
		numbers(w[5:], &r.Rest.Low, &r.Rest.High, &r.Lift.Low, &r.Lift.High)
}

// chosen sets what a word says, and reports whether it is one of both.
func chosen(word, yes, no string, is *bool) bool {
	*is = word == yes
	return *is || word == no
}

// numbers sets each of the numbers to what its word says, and reports whether there are as many words, and all are numbers.
func numbers(w []string, list ...*int) bool {
	if len(w) != len(list) {
		return false
	}
	for i, word := range w {
		n, err := strconv.Atoi(word)
		// There is one way to write a number: no +, no leading zeros, no -0.
		if err != nil || !short(n) || strconv.Itoa(n) != word {
			return false
		}
		*list[i] = n
	}
	return true
}
