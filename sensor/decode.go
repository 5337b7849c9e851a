package sensor

import (
	"slices"

	"minecontrol/api"
)

// Kinds of telegrams of sensors.
const (
	kindMeasure = 1 // the data are a raw number
	kindBroken  = 2 // the sensor is out of order
)

// Decode returns the measurement that a telegram brings at a time.
func Decode(l []api.Sensor, f api.Frame, time int) (api.Measure, api.Errno) {
	if !within(0, api.MaxTime, time) {
		return api.Measure{}, api.ErrTime
	}
	i := slices.IndexFunc(l, func(s api.Sensor) bool { return s.Address == f.Address })
	if i < 0 || Check(l[i]) != api.OK {
		return api.Measure{}, api.ErrSensor
	}
	span, code := said(l[i], f)
	if code != api.OK {
		return api.Measure{}, code
	}
	return api.Measure{Sensor: i, Time: time, Span: span}, api.OK
}

// said returns what a telegram of a sensor says.
func said(s api.Sensor, f api.Frame) (api.Span, api.Errno) {
	switch {
	case f.Kind == kindMeasure && len(f.Data) == 2:
		return Value(s, int(f.Data[0])<<8+int(f.Data[1])), api.OK
	case f.Kind == kindBroken && len(f.Data) == 0:
		return Nothing(), api.OK
	case f.Kind == kindMeasure || f.Kind == kindBroken:
		return api.Span{}, api.ErrForm
	}
	return api.Span{}, api.ErrKind
}
