package sensor

import (
	"math"
	"slices"
	"testing"

	"minecontrol/api"
)

// site returns sensors, the last ones of which have an address that is taken, or an error.
func site() []api.Sensor {
	flow := api.Sensor{Address: 7, Kind: api.SenseFlow, Scale: 500, Error: 3, Life: 60}
	return []api.Sensor{
		flow,
		{Address: 0, Kind: api.SenseSmoke, Life: 1},
		{Address: 255, Kind: api.SenseGas, Scale: 1000, Life: 1},
		{Address: 7, Kind: api.SenseDoor, Life: 1},         // the address 7 again
		{Address: 9, Kind: api.SenseDoor, Life: 0},         // no sensor
		{Address: 9, Kind: api.SenseDoor, Life: 1},         // behind the one that is none
		{Address: 256, Kind: api.SenseDoor, Life: 1},       // no address
		{Address: -1, Kind: api.SenseDoor, Life: 1},        // no address
		{Address: 1<<32 + 5, Kind: api.SenseFan, Life: 1},  // no address
		{Address: math.MinInt, Kind: api.SenseCO, Life: 1}, // no address
	}
}

// wantDecode checks what Decode answers.
func wantDecode(t *testing.T, name string, l []api.Sensor, f api.Frame, time int, want api.Measure, code api.Errno) {
	t.Helper()
	if got, e := Decode(l, f, time); got != want || e != code {
		t.Errorf("%s: %v and %d, want %v and %d", name, got, e, want, code)
	}
}

// P5.3: measurements.
func TestDecode(t *testing.T) {
	l := []struct {
		name string
		f    api.Frame
		time int
		want api.Measure
	}{
		{"a flow", api.Frame{Address: 7, Kind: 1, Data: []byte{0, 101}}, 20, api.Measure{Time: 20, Span: api.Span{Low: 47, High: 54}}},
		{"two bytes that count", api.Frame{Address: 7, Kind: 1, Data: []byte{1, 2}}, 0, api.Measure{Span: api.Span{Low: 126, High: 132}}},
		{"the last time", api.Frame{Address: 0, Kind: 1, Data: []byte{0, 1}}, 1 << 31, api.Measure{Sensor: 1, Time: 1 << 31, Span: api.Span{Low: 1, High: 1}}},
		{"no smoke", api.Frame{Address: 0, Kind: 1, Data: []byte{0, 0}}, 5, api.Measure{Sensor: 1, Time: 5}},
		{"a state that there is not", api.Frame{Address: 0, Kind: 1, Data: []byte{0, 2}}, 5, api.Measure{Sensor: 1, Time: 5, Span: nothing}},
		{"a state in the wrong byte", api.Frame{Address: 0, Kind: 1, Data: []byte{1, 0}}, 5, api.Measure{Sensor: 1, Time: 5, Span: nothing}},
		{"the greatest raw number", api.Frame{Address: 255, Kind: 1, Data: []byte{255, 255}}, 6, api.Measure{Sensor: 2, Time: 6, Span: api.Span{Low: 65535, High: 65535}}},
		{"the first byte alone", api.Frame{Address: 255, Kind: 1, Data: []byte{255, 0}}, 6, api.Measure{Sensor: 2, Time: 6, Span: api.Span{Low: 65280, High: 65280}}},
		{"the second byte alone", api.Frame{Address: 255, Kind: 1, Data: []byte{0, 255}}, 6, api.Measure{Sensor: 2, Time: 6, Span: api.Span{Low: 255, High: 255}}},
		{"out of order", api.Frame{Address: 7, Kind: 2}, 8, api.Measure{Time: 8, Span: nothing}},
		{"out of order, with an empty list", api.Frame{Address: 255, Kind: 2, Data: []byte{}}, 0, api.Measure{Sensor: 2, Span: nothing}},
		{"smoke out of order", api.Frame{Address: 0, Kind: 2}, 8, api.Measure{Sensor: 1, Time: 8, Span: nothing}},
	}
	for _, x := range l {
		wantDecode(t, x.name, site(), x.f, x.time, x.want, api.OK)
	}
}

// P5.3: the span is the value of the raw number, for all raw numbers and all kinds.
func TestDecodeIsValue(t *testing.T) {
	for _, kind := range kinds() {
		s := usual(kind)
		for raw := range api.MaxRaw + 1 {
			f := api.Frame{Address: s.Address, Kind: 1, Data: []byte{byte(raw / 256), byte(raw % 256)}}
			want := api.Measure{Sensor: 0, Time: 3, Span: Value(s, raw)}
			if got, code := Decode([]api.Sensor{s}, f, 3); got != want || code != api.OK {
				t.Fatalf("kind %d, raw %d: %v and %d, want %v", kind, raw, got, code, want)
			}
		}
	}
}

// P5.3: errors, each alone.
func TestDecodeErrors(t *testing.T) {
	good := api.Frame{Address: 7, Kind: 1, Data: []byte{0, 101}}
	for _, time := range []int{-1, 1<<31 + 1, math.MaxInt, math.MinInt} {
		wantDecode(t, "another time", site(), good, time, api.Measure{}, api.ErrTime)
	}
	for _, address := range []int{1, 6, 8, 9, 254, 256, -1, 1<<32 + 5, 1<<32 + 7, math.MaxInt, math.MinInt} {
		f := api.Frame{Address: address, Kind: 1, Data: []byte{0, 1}}
		wantDecode(t, "another address", site(), f, 0, api.Measure{}, api.ErrSensor)
		wantDecode(t, "another address, out of order", site(), api.Frame{Address: address, Kind: 2}, 0, api.Measure{}, api.ErrSensor)
	}
	wantDecode(t, "no sensors", nil, good, 0, api.Measure{}, api.ErrSensor)
	wantDecode(t, "an empty list", []api.Sensor{}, good, 0, api.Measure{}, api.ErrSensor)
	for _, s := range odd(api.SenseFlow) {
		f := good
		f.Address = s.Address
		wantDecode(t, "a sensor that is none", []api.Sensor{s}, f, 0, api.Measure{}, api.ErrSensor)
	}
	for _, address := range []int{7, 0, 255} {
		for _, kind := range []int{0, 3, 9, 255, -1, 1<<32 + 1, math.MaxInt, math.MinInt} {
			for n := range 4 {
				wantDecode(t, "another kind", site(), api.Frame{Address: address, Kind: kind, Data: make([]byte, n)}, 5, api.Measure{}, api.ErrKind)
			}
		}
		for _, n := range []int{0, 1, 3, 4, 64, 65, 258} {
			wantDecode(t, "other data of a measurement", site(), api.Frame{Address: address, Kind: 1, Data: make([]byte, n)}, 5, api.Measure{}, api.ErrForm)
		}
		for _, n := range []int{1, 2, 3, 64, 65, 256} {
			wantDecode(t, "data of one that is out of order", site(), api.Frame{Address: address, Kind: 2, Data: make([]byte, n)}, 5, api.Measure{}, api.ErrForm)
		}
	}
}

// P5.3: of several errors the first one counts.
func TestDecodeErrorOrder(t *testing.T) {
	wantDecode(t, "time and sensor", site(), api.Frame{Address: 1, Kind: 1, Data: []byte{0, 1}}, -1, api.Measure{}, api.ErrTime)
	wantDecode(t, "time and kind", site(), api.Frame{Address: 7, Kind: 3, Data: []byte{0, 1}}, -1, api.Measure{}, api.ErrTime)
	wantDecode(t, "time and form", site(), api.Frame{Address: 7, Kind: 1}, -1, api.Measure{}, api.ErrTime)
	wantDecode(t, "sensor and kind", site(), api.Frame{Address: 1, Kind: 3}, 0, api.Measure{}, api.ErrSensor)
	wantDecode(t, "a sensor that is none and kind", site(), api.Frame{Address: 9, Kind: 3}, 0, api.Measure{}, api.ErrSensor)
	wantDecode(t, "sensor and form", site(), api.Frame{Address: 1, Kind: 1}, 0, api.Measure{}, api.ErrSensor)
	wantDecode(t, "a sensor that is none and form", site(), api.Frame{Address: 9, Kind: 2, Data: []byte{1}}, 0, api.Measure{}, api.ErrSensor)
	wantDecode(t, "kind and form", site(), api.Frame{Address: 7, Kind: 0, Data: []byte{1}}, 0, api.Measure{}, api.ErrKind)
	wantDecode(t, "all", site(), api.Frame{Address: -5, Kind: -5, Data: []byte{1}}, -5, api.Measure{}, api.ErrTime)
}

// R2: arguments stay as they are, also behind their ends.
func TestDecodeLeavesArguments(t *testing.T) {
	l, data := site(), []byte{0, 101, 99}
	for _, kind := range []int{1, 2, 3} {
		for n := range 3 {
			Decode(l[:2], api.Frame{Address: 7, Kind: kind, Data: data[:n]}, 0)
		}
	}
	if !slices.Equal(l, site()) || !slices.Equal(data, []byte{0, 101, 99}) {
		t.Errorf("the sensors are %v, and the data %v", l, data)
	}
}
