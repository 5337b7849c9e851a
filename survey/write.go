package survey

import (
	"strconv"

	"minecontrol/api"
)

// maxNumber is the greatest number with 18 digits.
const maxNumber = 999999999999999999

// plain reports whether a line stands for an edit.
func plain(e api.Edit) bool {
	rest := e
	rest.Kind = 0
	switch e.Kind {
	case api.EditPlace:
		rest.Place = api.Place{}
	case api.EditRoad:
		// No line says that a new road is closed.
		rest.New = api.Road{Closed: e.New.Closed}
	case api.EditClose, api.EditOpen:
		rest.Road = 0
	case api.EditRest, api.EditLift:
		rest.Road, rest.Span = 0, api.Span{}
	default:
		return false
	}
	r := e.New
	return rest == api.Edit{} &&
		short(e.Place.Height, e.Road, e.Span.Low, e.Span.High) &&
		short(r.From, r.To, r.Length, r.Area, r.Rest.Low, r.Rest.High, r.Lift.Low, r.Lift.High)
}

// short reports whether all numbers have at most 18 digits.
func short(numbers ...int) bool {
	for _, n := range numbers {
		if n < -maxNumber || n > maxNumber {
			return false
		}
	}
	return true
}

// editLine returns the line of a plain edit, with its end.
func editLine(e api.Edit) string {
	switch r := e.New; e.Kind {
	case api.EditPlace:
		return words("place", e.Place.Height) + " " + line(choose(e.Place.Surface, "surface", "below"))
	case api.EditRoad:
		return words("road", r.From, r.To, r.Length, r.Area) + " " +
			line(choose(r.Walk, "walk", "machine"), r.Rest.Low, r.Rest.High, r.Lift.Low, r.Lift.High)
	case api.EditClose:
		return line("close", e.Road)
	case api.EditOpen:
		return line("open", e.Road)
	case api.EditRest:
		return line("rest", e.Road, e.Span.Low, e.Span.High)
	case api.EditLift:
		return line("lift", e.Road, e.Span.Low, e.Span.High)
	}
	return ""
}

// line returns a word and the numbers behind it, and the end of a line.
func line(word string, numbers ...int) string {
	return words(word, numbers...) + "\n"
}

// words returns a word and the numbers behind it.
func words(word string, numbers ...int) string {
	text := word
	for _, n := range numbers {
		text += " " + strconv.Itoa(n)
	}
	return text
}

// choose returns the word for something that is so, or for something that is not.
func choose(is bool, yes, no string) string {
	if is {
		return yes
	}
	return no
}
