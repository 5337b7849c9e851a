package plan

import (
	"slices"

	"minecontrol/api"
)

// Apply returns the mine after an edit.
func Apply(m api.Mine, e api.Edit) (api.Mine, api.Errno) {
	if code := Check(m); code != api.OK {
		return api.Mine{}, code
	}
	if code := checkEdit(m, e); code != api.OK {
		return api.Mine{}, code
	}
	edited := edit(m, e)
	if code := Check(edited); code != api.OK {
		return api.Mine{}, code
	}
	return edited, api.OK
}

// All applies edits up to the first one that is not possible, and returns the mine, how many were applied, and the error.
func All(m api.Mine, l []api.Edit) (api.Mine, int, api.Errno) {
	result := clone(m)
	for i, e := range l {
		next, code := Apply(result, e)
		if code != api.OK {
			return result, i, code
		}
		result = next
	}
	return result, len(l), api.OK
}

// checkEdit returns the first reason why an edit cannot be made in a valid mine, apart from a new mine that is not valid.
func checkEdit(m api.Mine, e api.Edit) api.Errno {
	switch e.Kind {
	case api.EditPlace, api.EditRoad:
		return api.OK
	case api.EditClose, api.EditOpen, api.EditRest, api.EditLift:
	default:
		return api.ErrKind
	}
	if !hasRoad(m, e.Road) {
		return api.ErrRoad
	}
	closed := m.Roads[e.Road].Closed
	if e.Kind == api.EditClose && closed || e.Kind == api.EditOpen && !closed {
		return api.ErrState
	}
	return api.OK
}

// edit returns a changed copy of the mine, for an edit that checkEdit permits.
func edit(m api.Mine, e api.Edit) api.Mine {
	result := clone(m)
	switch e.Kind {
	case api.EditPlace:
		result.Places = append(result.Places, e.Place)
	case api.EditRoad:
		result.Roads = append(result.Roads, e.New)
	case api.EditClose:
		result.Roads[e.Road].Closed = true
	case api.EditOpen:
		result.Roads[e.Road].Closed = false
	case api.EditRest:
		result.Roads[e.Road].Rest = e.Span
	case api.EditLift:
		result.Roads[e.Road].Lift = e.Span
	}
	return result
}

// clone returns a copy of the mine that shares no memory with it.
func clone(m api.Mine) api.Mine {
	return api.Mine{Places: slices.Clone(m.Places), Roads: slices.Clone(m.Roads)}
}
