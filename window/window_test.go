package window

import (
	"math"
	"testing"

	"minecontrol/api"
)

// nothing is the span of which nothing is known.
var nothing = api.Span{Low: -1 << 50, High: 1 << 50}

// scaleKinds are the kinds of sensors whose values drift; the last one can be less than 0.
func scaleKinds() []int { return []int{api.SenseGas, api.SenseCO, api.SenseFlow} }

// stateKinds are the kinds of sensors that tell states.
func stateKinds() []int { return []int{api.SenseSmoke, api.SenseFan, api.SenseDoor} }

// made returns a sensor of a kind.
func made(kind, drift, life int) api.Sensor {
	return api.Sensor{Address: 7, Kind: kind, Target: 3, Offset: 5, Scale: 500, Error: 9, Drift: drift, Life: life}
}

// oddSensors are sensors of a kind that sensor.Check does not pass.
func oddSensors(kind int) []api.Sensor {
	changes := []func(s *api.Sensor){
		func(s *api.Sensor) { s.Kind = 0 },
		func(s *api.Sensor) { s.Kind = 7 },
		func(s *api.Sensor) { s.Kind = math.MinInt },
		func(s *api.Sensor) { s.Address = -1 },
		func(s *api.Sensor) { s.Address = 256 },
		func(s *api.Sensor) { s.Target = -1 },
		func(s *api.Sensor) { s.Offset = 1000001 },
		func(s *api.Sensor) { s.Scale = -1000001 },
		func(s *api.Sensor) { s.Error = -1 },
		func(s *api.Sensor) { s.Drift = -1 },
		func(s *api.Sensor) { s.Drift = 1000001 },
		func(s *api.Sensor) { s.Drift = math.MaxInt },
		func(s *api.Sensor) { s.Life = 0 },
		func(s *api.Sensor) { s.Life = 1000001 },
		func(s *api.Sensor) { s.Life = math.MaxInt },
		func(s *api.Sensor) { s.Life = math.MinInt },
	}
	var l []api.Sensor
	for _, change := range changes {
		s := made(kind, 100, 60)
		change(&s)
		l = append(l, s)
	}
	return append(l, api.Sensor{}, api.Sensor{Kind: kind})
}

// measured returns what a sensor said at 20.
func measured(low, high int) api.Measure {
	return api.Measure{Sensor: 4, Time: 20, Span: api.Span{Low: low, High: high}}
}

// wantAt checks what At answers.
func wantAt(t *testing.T, s api.Sensor, m api.Measure, time int, want api.Span) {
	t.Helper()
	if got := At(s, m, time); got != want {
		t.Errorf("%+v, %+v at %d: %v, want %v", s, m, time, got, want)
	}
}

// P6.1: the example of the document.
func TestAtExample(t *testing.T) {
	s, m := made(api.SenseFlow, 100, 60), measured(40, 50)
	wantAt(t, s, m, 20, api.Span{Low: 40, High: 50})
	for later := 1; later <= 10; later++ {
		wantAt(t, s, m, 20+later, api.Span{Low: 39, High: 51})
	}
	for later := 11; later <= 20; later++ {
		wantAt(t, s, m, 20+later, api.Span{Low: 38, High: 52})
	}
	wantAt(t, s, m, 20+60, api.Span{Low: 34, High: 56})
	wantAt(t, s, m, 20+61, nothing)
}

// P6.1: the drift is rounded up.
func TestAtRounds(t *testing.T) {
	l := []struct{ drift, later, by int }{
		{0, 0, 0}, {0, 1, 0}, {0, 1000000, 0},
		{1, 0, 0}, {1, 1, 1}, {1, 999, 1}, {1, 1000, 1}, {1, 1001, 2}, {1, 2000, 2},
		{500, 1, 1}, {500, 2, 1}, {500, 3, 2},
		{999, 1, 1}, {999, 2, 2}, {999, 1000, 999},
		{1000, 1, 1}, {1000, 7, 7}, {1001, 1, 2}, {1001, 999, 1000}, {1001, 1000, 1001},
		{333, 3, 1}, {334, 3, 2}, {2500, 3, 8},
		{1000000, 1, 1000}, {1000000, 1000000, 1000000000}, {999999, 1000000, 999999000}, {999999, 999999, 999998001},
	}
	for _, x := range l {
		s := made(api.SenseFlow, x.drift, 1000000)
		wantAt(t, s, measured(-40, 50), 20+x.later, api.Span{Low: -40 - x.by, High: 50 + x.by})
		wantAt(t, s, measured(7, 7), 20+x.later, api.Span{Low: 7 - x.by, High: 7 + x.by})
	}
}

// P6.1: by how much it widens, in thousandths, for all small drifts and ages.
func TestAtByDefinition(t *testing.T) {
	for _, drift := range []int{0, 1, 2, 3, 7, 99, 100, 333, 500, 999, 1000, 1001, 1999, 2000, 12345, 1000000} {
		s := made(api.SenseFlow, drift, 1100)
		for later := 0; later <= 1100; later++ {
			v := At(s, measured(-30, 80), 20+later)
			over := 1000*(v.High-80) - drift*later
			if over < 0 || over >= 1000 || v.High-80 != -30-v.Low {
				t.Fatalf("drift %d, %d seconds later: %v", drift, later, v)
			}
		}
	}
}

// P6.1: the greatest values, drifts, lives and times are permitted.
func TestAtLimits(t *testing.T) {
	s := made(api.SenseFlow, 1000000, 1000000)
	m := api.Measure{Time: 1 << 31, Span: api.Span{Low: -1 << 40, High: 1 << 40}}
	wantAt(t, s, m, 1<<31, m.Span)
	wantAt(t, s, m, 1<<31+1000000, api.Span{Low: -1<<40 - 1000000000, High: 1<<40 + 1000000000})
	wantAt(t, s, m, 1<<31+1000001, nothing)
	m.Time = 0
	wantAt(t, s, m, 0, m.Span)
	wantAt(t, s, m, -1, nothing)
	wantAt(t, s, m, 1000000, api.Span{Low: -1<<40 - 1000000000, High: 1<<40 + 1000000000})
}

// P6.1: of gas what is less than 0 is 0, but the flow of air may be.
func TestAtBelowZero(t *testing.T) {
	l := []struct {
		name      string
		v         api.Span
		later     int
		flow, gas api.Span
	}{
		{"above 0", api.Span{Low: 10, High: 20}, 10, api.Span{Low: 0, High: 30}, api.Span{Low: 0, High: 30}},
		{"Low falls below 0", api.Span{Low: 10, High: 20}, 11, api.Span{Low: -1, High: 31}, api.Span{Low: 0, High: 31}},
		{"from 0", api.Span{}, 1, api.Span{Low: -1, High: 1}, api.Span{Low: 0, High: 1}},
		{"measured below 0", api.Span{Low: -5, High: 3}, 0, api.Span{Low: -5, High: 3}, api.Span{Low: 0, High: 3}},
		{"all below 0", api.Span{Low: -9, High: -5}, 0, api.Span{Low: -9, High: -5}, api.Span{Low: 0, High: 0}},
		{"all below 0 later", api.Span{Low: -9, High: -5}, 4, api.Span{Low: -13, High: -1}, api.Span{Low: 0, High: 0}},
		{"all below 0 no more", api.Span{Low: -9, High: -5}, 7, api.Span{Low: -16, High: 2}, api.Span{Low: 0, High: 2}},
	}
	for _, x := range l {
		for _, kind := range scaleKinds() {
			want := x.gas
			if kind == api.SenseFlow {
				want = x.flow
			}
			t.Run(x.name, func(t *testing.T) {
				wantAt(t, made(kind, 1000, 60), measured(x.v.Low, x.v.High), 20+x.later, want)
			})
		}
	}
}

// P6.1: states stay as they are, as long as the sensor lives.
func TestAtStates(t *testing.T) {
	for _, kind := range stateKinds() {
		for _, v := range []api.Span{{}, {Low: 1, High: 1}, {Low: 0, High: 5}, {Low: -2, High: -1}, {Low: -1 << 40, High: 1 << 40}} {
			m := measured(v.Low, v.High)
			for later := 0; later <= 60; later++ {
				wantAt(t, made(kind, 1000000, 60), m, 20+later, v)
			}
			wantAt(t, made(kind, 1000000, 60), m, 20+61, nothing)
			wantAt(t, made(kind, 0, 60), m, 19, nothing)
		}
	}
}

// P6.1: nothing, before the measurement and after the life of the sensor.
func TestAtNothingByTime(t *testing.T) {
	for _, kind := range append(scaleKinds(), stateKinds()...) {
		for _, life := range []int{1, 2, 60, 1000000} {
			s, m := made(kind, 0, life), measured(1, 1)
			for _, time := range []int{20, 21, 20 + life} {
				wantAt(t, s, m, time, m.Span)
			}
			for _, time := range []int{19, 0, -1, -20, math.MinInt, math.MinInt + 20, math.MinInt + 21, 20 + life + 1, 21 + life + 1, 1 << 32, math.MaxInt} {
				wantAt(t, s, m, time, nothing)
			}
		}
	}
}

// P6.1: nothing, of a sensor that is none, of a measurement that is none, and of one that says nothing.
func TestAtNothing(t *testing.T) {
	for _, kind := range append(scaleKinds(), stateKinds()...) {
		for _, s := range oddSensors(kind) {
			wantAt(t, s, measured(40, 50), 20, nothing)
			wantAt(t, s, measured(40, 50), 21, nothing)
		}
		s := made(kind, 100, 60)
		for _, number := range []int{-1, -2, math.MinInt} {
			m := measured(40, 50)
			m.Sensor = number
			wantAt(t, s, m, 20, nothing)
			wantAt(t, s, m, 25, nothing)
		}
		for _, number := range []int{0, 1, 63, 64, math.MaxInt} {
			m := measured(40, 50)
			m.Sensor = number
			wantAt(t, s, m, 20, m.Span)
		}
		for later := range 62 {
			wantAt(t, s, measured(nothing.Low, nothing.High), 20+later, nothing)
		}
	}
}

// The consequence: what a measurement says gets no narrower with time.
func TestAtGetsNoNarrower(t *testing.T) {
	for _, kind := range append(scaleKinds(), stateKinds()...) {
		for _, v := range []api.Span{{}, {Low: 40, High: 50}, {Low: -9, High: -5}, {Low: -5, High: 5}, {Low: -1 << 40, High: 1 << 40}} {
			s, m := made(kind, 321, 60), measured(v.Low, v.High)
			last := At(s, m, 20)
			for time := 21; time < 90; time++ {
				next := At(s, m, time)
				if next.Low > last.Low || next.High < last.High {
					t.Errorf("kind %d, %v: %v and then %v at %d", kind, v, last, next, time)
				}
				last = next
			}
		}
	}
}

// wantUntil checks what Until answers.
func wantUntil(t *testing.T, s api.Sensor, m api.Measure, value, want int) {
	t.Helper()
	if got := Until(s, m, value); got != want {
		t.Errorf("%+v, %+v, until %d: %d, want %d", s, m, value, got, want)
	}
}

// P6.4: the last time, for values around those of a measurement.
func TestUntil(t *testing.T) {
	l := []struct{ drift, value, want int }{
		{100, 50, -1}, // the value is in the span
		{100, 51, 20}, // any later 51 is in the span
		{100, 52, 30}, // up to 10 seconds later it is 51 at most
		{100, 53, 40},
		{100, 56, 70},
		{100, 57, 80}, // just the life of the sensor
		{100, 58, 80}, // not beyond it
		{100, 1 << 40, 80},
		{100, 1 << 50, 80},
		{100, 49, -1},
		{100, 40, -1},
		{100, 39, -1}, // surely not less
		{100, 0, -1},
		{100, -1 << 50, -1},
		{100, math.MinInt, -1},
		{0, 50, -1},
		{0, 51, 80}, // it does not drift
		{1000, 51, 20},
		{1000, 52, 21},
		{1000, 110, 79},
		{1000, 111, 80},
		{1001, 52, 20}, // the first second is rounded up to 2
		{1001, 53, 21},
		{1000000, 1050, 20},
		{1000000, 1051, 21},
		{1, 51, 20},
		{1, 52, 80},
	}
	for _, x := range l {
		for _, kind := range scaleKinds() {
			wantUntil(t, made(kind, x.drift, 60), measured(40, 50), x.value, x.want)
		}
	}
}

// P6.4: flows below 0, and gas, of which there is none below 0.
func TestUntilBelowZero(t *testing.T) {
	m := measured(-9, -5)
	wantUntil(t, made(api.SenseFlow, 1000, 60), m, -5, -1)
	wantUntil(t, made(api.SenseFlow, 1000, 60), m, -4, 20)
	wantUntil(t, made(api.SenseFlow, 1000, 60), m, 0, 24)
	wantUntil(t, made(api.SenseFlow, 1000, 60), m, 1, 25)
	for _, kind := range scaleKinds()[:2] {
		wantUntil(t, made(kind, 1000, 60), m, -4, -1)
		wantUntil(t, made(kind, 1000, 60), m, 0, -1)
		wantUntil(t, made(kind, 1000, 60), m, 1, 25)
	}
}

// P6.4: states say the same up to the end of the life.
func TestUntilOfStates(t *testing.T) {
	for _, kind := range stateKinds() {
		s := made(kind, 1000000, 60)
		wantUntil(t, s, measured(0, 0), 1, 80)
		wantUntil(t, s, measured(0, 0), 0, -1)
		wantUntil(t, s, measured(1, 1), 1, -1)
		wantUntil(t, s, measured(0, 1), 1, -1)
		wantUntil(t, s, measured(0, 1), 2, 80)
		wantUntil(t, s, measured(-2, -1), 0, 80)
	}
}

// P6.4: the greatest lives and times.
func TestUntilLimits(t *testing.T) {
	m := api.Measure{Time: 1 << 31, Span: api.Span{Low: -1 << 40, High: 1 << 40}}
	s := made(api.SenseFlow, 1000000, 1000000)
	wantUntil(t, s, m, 1<<40, -1)
	wantUntil(t, s, m, 1<<40+1, 1<<31)
	wantUntil(t, s, m, 1<<40+1000000000, 1<<31+999999)
	wantUntil(t, s, m, 1<<40+1000000001, 1<<31+1000000)
	wantUntil(t, s, m, 1<<50, 1<<31+1000000)
	m.Time = 0
	wantUntil(t, s, m, 1<<40+1, 0)
	wantUntil(t, s, m, 1<<50, 1000000)
}

// P6.4: a measurement that says nothing does not say that the value is less, and what comes after the life of a sensor does not either, whatever the value is.
func TestUntilNothing(t *testing.T) {
	for _, kind := range append(scaleKinds(), stateKinds()...) {
		for _, value := range []int{51, 1 << 40, 1 << 50, 1<<50 + 1, math.MaxInt} {
			for _, s := range oddSensors(kind) {
				wantUntil(t, s, measured(40, 50), value, -1)
			}
			s, m := made(kind, 0, 60), measured(40, 50)
			wantUntil(t, s, m, value, 80)
			m.Sensor = -1
			wantUntil(t, s, m, value, -1)
			wantUntil(t, s, measured(nothing.Low, nothing.High), value, -1)
		}
	}
}

// P6.4: a span without numbers says nothing of a value, also if there are numbers in it later.
func TestUntilOfSpansWithoutNumbers(t *testing.T) {
	for _, kind := range append(scaleKinds(), stateKinds()...) {
		wantUntil(t, made(kind, 1000, 60), measured(50, 49), 60, -1)
		wantUntil(t, made(kind, 1000000, 60), measured(50, 40), 100000, -1)
	}
}

// untilByDefinition goes through all times up to the end of the life, and some more.
func untilByDefinition(s api.Sensor, m api.Measure, value int) int {
	last := -1
	for time := m.Time; time <= m.Time+s.Life+5; time++ {
		if Above(At(s, m, time), value) == api.False {
			last = time
		}
	}
	return last
}

// P6.4: a search through all times finds the same.
func TestUntilByDefinition(t *testing.T) {
	for _, kind := range append(scaleKinds(), stateKinds()...) {
		for _, drift := range []int{0, 1, 30, 99, 100, 101, 333, 1000, 2500} {
			for _, v := range []api.Span{{}, {Low: 1, High: 1}, {Low: 4, High: 9}, {Low: -7, High: 2}, {Low: -9, High: -3}} {
				for _, life := range []int{1, 2, 37} {
					for value := -12; value < 50; value++ {
						s, m := made(kind, drift, life), measured(v.Low, v.High)
						wantUntil(t, s, m, value, untilByDefinition(s, m, value))
					}
				}
			}
		}
	}
}

// R1: every call returns, also for measurements of which the document says nothing; the order of times is exact also there.
func TestOddMeasurements(t *testing.T) {
	ends := []int{math.MinInt, math.MinInt + 1, -1 << 50, -1, 0, 1, 1 << 31, 1 << 50, math.MaxInt - 1, math.MaxInt}
	for _, kind := range append(scaleKinds(), stateKinds()...) {
		s := made(kind, 1000000, 1000000)
		for _, measureTime := range ends {
			for _, end := range ends {
				m := api.Measure{Time: measureTime, Span: api.Span{Low: -end, High: end}}
				Until(s, m, end)
				for _, time := range ends {
					if got := At(s, m, time); time < measureTime && got != nothing {
						t.Errorf("%+v, %+v at %d: %v, want nothing", s, m, time, got)
					}
				}
			}
		}
	}
}
