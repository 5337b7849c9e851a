package sensor

import (
	"math"
	"testing"

	"minecontrol/api"
)

// usual returns a sensor of a kind that has no error.
func usual(kind int) api.Sensor {
	return api.Sensor{Address: 7, Kind: kind, Target: 3, Offset: 100, Scale: 500, Error: 3, Drift: 2, Life: 60}
}

// kinds are all kinds of sensors.
func kinds() []int {
	return []int{api.SenseGas, api.SenseCO, api.SenseFlow, api.SenseSmoke, api.SenseFan, api.SenseDoor}
}

// field is a number of a sensor, and the least and the greatest that it may be.
type field struct {
	name      string
	of        func(s *api.Sensor) *int
	low, high int
}

// fields are the numbers of a sensor beside its kind.
func fields() []field {
	return []field{
		{"Address", func(s *api.Sensor) *int { return &s.Address }, 0, 255},
		{"Target", func(s *api.Sensor) *int { return &s.Target }, 0, math.MaxInt},
		{"Offset", func(s *api.Sensor) *int { return &s.Offset }, -1000000, 1000000},
		{"Scale", func(s *api.Sensor) *int { return &s.Scale }, -1000000, 1000000},
		{"Error", func(s *api.Sensor) *int { return &s.Error }, 0, 1000000},
		{"Drift", func(s *api.Sensor) *int { return &s.Drift }, 0, 1000000},
		{"Life", func(s *api.Sensor) *int { return &s.Life }, 1, 1000000},
	}
}

// outside returns numbers that a field may not be.
func (f field) outside() []int {
	l := []int{f.low - 1, math.MinInt, math.MinInt + 1}
	if f.high < math.MaxInt {
		l = append(l, f.high+1, math.MaxInt, 1<<32+f.low)
	}
	return l
}

// odd are sensors of a kind that have an error.
func odd(kind int) []api.Sensor {
	var l []api.Sensor
	for _, f := range fields() {
		for _, n := range f.outside() {
			s := usual(kind)
			*f.of(&s) = n
			l = append(l, s)
		}
	}
	for _, n := range []int{0, 7, -1, 1<<32 + 1, math.MaxInt, math.MinInt} {
		s := usual(kind)
		s.Kind = n
		l = append(l, s)
	}
	return append(l, api.Sensor{}, api.Sensor{Kind: kind})
}

// nothing is the span of which nothing is known.
var nothing = api.Span{Low: -1 << 50, High: 1 << 50}

// P5.1: numbers at their limits are permitted, and those beyond are not, for all kinds.
func TestCheckLimits(t *testing.T) {
	for _, kind := range kinds() {
		for _, f := range fields() {
			s := usual(kind)
			for _, n := range []int{f.low, f.low + 1, f.high - 1, f.high} {
				*f.of(&s) = n
				if got := Check(s); got != api.OK {
					t.Errorf("kind %d with the %s %d: the error %d", kind, f.name, n, got)
				}
			}
			for _, n := range f.outside() {
				*f.of(&s) = n
				if got := Check(s); got != api.ErrRange {
					t.Errorf("kind %d with the %s %d: the error %d, want %d", kind, f.name, n, got, api.ErrRange)
				}
			}
		}
	}
}

// P5.1: all numbers at their limits together.
func TestCheckAllLimits(t *testing.T) {
	for _, kind := range kinds() {
		least, most := api.Sensor{Kind: kind}, api.Sensor{Kind: kind}
		for _, f := range fields() {
			*f.of(&least), *f.of(&most) = f.low, f.high
		}
		if a, b := Check(least), Check(most); a != api.OK || b != api.OK {
			t.Errorf("kind %d: the errors %d and %d", kind, a, b)
		}
	}
}

// P5.1: the kind comes first.
func TestCheckKind(t *testing.T) {
	for _, kind := range []int{0, 7, 8, -1, -6, 1<<32 + 1, math.MaxInt, math.MinInt} {
		s := usual(kind)
		if got := Check(s); got != api.ErrKind {
			t.Errorf("kind %d: the error %d, want %d", kind, got, api.ErrKind)
		}
		for _, f := range fields() {
			s := usual(kind)
			*f.of(&s) = f.low - 1
			if got := Check(s); got != api.ErrKind {
				t.Errorf("kind %d with another %s: the error %d, want %d", kind, f.name, got, api.ErrKind)
			}
		}
	}
	if got := Check(api.Sensor{}); got != api.ErrKind {
		t.Errorf("a sensor of zeros: the error %d, want %d", got, api.ErrKind)
	}
}

// P5.1: nothing.
func TestNothing(t *testing.T) {
	if got := Nothing(); got != nothing {
		t.Errorf("%v, want %v", got, nothing)
	}
}

// P5.2: the states of smoke, fans and doors are the numbers themselves, whatever the scale is.
func TestValueOfStates(t *testing.T) {
	for _, x := range []struct{ kind, states int }{{api.SenseSmoke, 2}, {api.SenseFan, 3}, {api.SenseDoor, 6}} {
		scales := []api.Sensor{usual(x.kind), {Kind: x.kind, Life: 1}, {Kind: x.kind, Offset: -1000000, Scale: -1000000, Error: 1000000, Life: 1}}
		for _, s := range scales {
			for raw := -2; raw < 12; raw++ {
				want := nothing
				if raw >= 0 && raw < x.states {
					want = api.Span{Low: raw, High: raw}
				}
				if got := Value(s, raw); got != want {
					t.Errorf("%+v, raw %d: %v, want %v", s, raw, got, want)
				}
			}
			for _, raw := range []int{256, 65535, 65536, 1 << 32, 1<<32 + 1, math.MaxInt, math.MinInt} {
				if got := Value(s, raw); got != nothing {
					t.Errorf("%+v, raw %d: %v, want nothing", s, raw, got)
				}
			}
		}
	}
}

// P5.2: values on a scale, rounded outwards.
func TestValueOnScale(t *testing.T) {
	l := []struct {
		name                 string
		offset, scale, error int
		raw                  int
		flow                 api.Span // what a sensor of a flow says
		gas                  api.Span // what a sensor of a gas says
	}{
		{"the example of the document", 0, 500, 3, 101, api.Span{Low: 47, High: 54}, api.Span{Low: 47, High: 54}},
		{"nothing to round", 0, 500, 3, 100, api.Span{Low: 47, High: 53}, api.Span{Low: 47, High: 53}},
		{"no scale", 12, 0, 3, 65535, api.Span{Low: 9, High: 15}, api.Span{Low: 9, High: 15}},
		{"all zero", 0, 0, 0, 0, api.Span{}, api.Span{}},
		{"no error", 5, 1000, 0, 7, api.Span{Low: 12, High: 12}, api.Span{Low: 12, High: 12}},
		{"a thousandth", 0, 1, 0, 1, api.Span{High: 1}, api.Span{High: 1}},
		{"a thousandth less than 1", 0, 1, 0, 999, api.Span{High: 1}, api.Span{High: 1}},
		{"just 1", 0, 1, 0, 1000, api.Span{Low: 1, High: 1}, api.Span{Low: 1, High: 1}},
		{"a thousandth more than 1", 0, 1, 0, 1001, api.Span{Low: 1, High: 2}, api.Span{Low: 1, High: 2}},
		{"a thousandth below 0", 0, -1, 0, 1, api.Span{Low: -1}, api.Span{}},
		{"just -1", 0, -1, 0, 1000, api.Span{Low: -1, High: -1}, api.Span{}},
		{"a thousandth below -1", 0, -1, 0, 1001, api.Span{Low: -2, High: -1}, api.Span{}},
		{"falling from above", 10, -1, 0, 1001, api.Span{Low: 8, High: 9}, api.Span{Low: 8, High: 9}},
		{"rising from below", -10, 1, 0, 1001, api.Span{Low: -9, High: -8}, api.Span{}},
		{"below 0 on one side", 2, 0, 3, 0, api.Span{Low: -1, High: 5}, api.Span{High: 5}},
		{"below 0 up to 0", -3, 0, 3, 0, api.Span{Low: -6}, api.Span{}},
		{"below 0 on both sides", -10, 0, 3, 0, api.Span{Low: -13, High: -7}, api.Span{}},
		{"greatest", 1000000, 1000000, 1000000, 65535, api.Span{Low: 65535000, High: 67535000}, api.Span{Low: 65535000, High: 67535000}},
		{"least", -1000000, -1000000, 1000000, 65535, api.Span{Low: -67535000, High: -65535000}, api.Span{}},
	}
	for _, x := range l {
		for _, kind := range kinds()[:3] {
			s := api.Sensor{Kind: kind, Offset: x.offset, Scale: x.scale, Error: x.error, Life: 1}
			want := x.gas
			if kind == api.SenseFlow {
				want = x.flow
			}
			if got := Value(s, x.raw); got != want {
				t.Errorf("%s, kind %d: %v, want %v", x.name, kind, got, want)
			}
		}
	}
}

// P5.2: nothing for raw numbers that are none, and for sensors that are none.
func TestValueNothing(t *testing.T) {
	for _, kind := range kinds() {
		for _, raw := range []int{-1, -100, 65536, 1 << 20, 1 << 32, math.MaxInt, math.MinInt} {
			if got := Value(usual(kind), raw); got != nothing {
				t.Errorf("kind %d, raw %d: %v, want nothing", kind, raw, got)
			}
		}
		for _, s := range odd(kind) {
			if got := Value(s, 1); got != nothing {
				t.Errorf("%+v: %v, want nothing", s, got)
			}
		}
	}
	for _, kind := range kinds()[:3] {
		for _, raw := range []int{0, 1, 65534, 65535} {
			if got := Value(usual(kind), raw); got == nothing {
				t.Errorf("kind %d, raw %d: nothing", kind, raw)
			}
		}
	}
}

// numbers makes numbers that look odd, but are the same in each run.
type numbers uint64

// next returns the next number from low to high.
func (n *numbers) next(low, high int) int {
	*n = *n*6364136223846793005 + 1442695040888963407
	return low + int(uint64(*n)>>33)%(high-low+1)
}

// sensor returns a sensor of a kind, with numbers of all sizes.
func (n *numbers) sensor(kind int) api.Sensor {
	size := []int{3, 50, 2000, 1000000}[n.next(0, 3)]
	s := usual(kind)
	s.Offset, s.Scale, s.Error = n.next(-size, size), n.next(-size, size), n.next(0, size)
	return s
}

// clamped returns a value as a sensor of a kind can say it.
func clamped(kind, value int) int {
	if value < 0 && (kind == api.SenseGas || kind == api.SenseCO) {
		return 0
	}
	return value
}

// P5.2: without the error, both ends of made spans are the nearest numbers that leave the value inside; of gas what is less than 0 is 0.
func TestValueOfMade(t *testing.T) {
	n := numbers(1)
	for range 20000 {
		s := n.sensor(n.next(api.SenseGas, api.SenseFlow))
		raw := n.next(0, api.MaxRaw)
		flow := s
		flow.Kind = api.SenseFlow
		v := Value(flow, raw)
		thousandths := 1000*s.Offset + s.Scale*raw
		below, above := thousandths-1000*(v.Low+s.Error), 1000*(v.High-s.Error)-thousandths
		if below < 0 || below >= 1000 || above < 0 || above >= 1000 {
			t.Fatalf("%+v, raw %d: %v", flow, raw, v)
		}
		want := api.Span{Low: clamped(s.Kind, v.Low), High: clamped(s.Kind, v.High)}
		if got := Value(s, raw); got != want {
			t.Fatalf("%+v, raw %d: %v, want %v", s, raw, got, want)
		}
	}
}

// The consequence: a true value lies in the value of each raw number that differs from it by no more than the error.
func TestTrueValueLiesWithin(t *testing.T) {
	n := numbers(2)
	for range 20000 {
		s := n.sensor(n.next(api.SenseGas, api.SenseFlow))
		raw := n.next(0, api.MaxRaw)
		value := s.Offset + s.Scale*raw/1000 + n.next(-s.Error-1, s.Error+1)
		off := 1000*(s.Offset-value) + s.Scale*raw
		if max(off, -off) > 1000*s.Error || clamped(s.Kind, value) != value {
			continue
		}
		if v := Value(s, raw); value < v.Low || value > v.High {
			t.Fatalf("%+v, raw %d: %d does not lie in %v", s, raw, value, v)
		}
	}
}

// rawByDefinition goes through all raw numbers.
func rawByDefinition(s api.Sensor, value int) (int, bool) {
	for raw := range api.MaxRaw + 1 {
		if v := Value(s, raw); v != nothing && v.Low <= value && value <= v.High {
			return raw, true
		}
	}
	return 0, false
}

// wantRaw checks what Raw answers.
func wantRaw(t *testing.T, s api.Sensor, value, want int, found bool) {
	t.Helper()
	if got, ok := Raw(s, value); got != want || ok != found {
		t.Errorf("%+v, value %d: %d and %t, want %d and %t", s, value, got, ok, want, found)
	}
}

// P5.4: the least raw number, on scales.
func TestRaw(t *testing.T) {
	l := []struct {
		name                 string
		offset, scale, error int
		value, want          int
		found                bool
	}{
		{"rising", 0, 1000, 3, 50, 47, true},
		{"rising, from 0 on", 0, 1000, 3, 3, 0, true},
		{"rising, just not from 0 on", 0, 1000, 3, 4, 1, true},
		{"rising, below", 0, 1000, 3, -3, 0, true},
		{"rising, too far below", 0, 1000, 3, -4, 0, false},
		{"rising, the last one", 0, 1000, 3, 65538, 65535, true},
		{"rising, behind the last one", 0, 1000, 3, 65539, 0, false},
		{"rising, rounded", 0, 500, 3, 54, 101, true},
		{"rising in steps", 0, 10000, 3, 13, 1, true},
		{"rising, between steps", 0, 10000, 3, 14, 0, false},
		{"rising slowly", 0, 1, 0, 65, 64001, true},
		{"rising slowly, the last one", 0, 1, 0, 66, 65001, true},
		{"falling", 100, -1000, 3, 50, 47, true},
		{"falling, from 0 on", 100, -1000, 3, 103, 0, true},
		{"falling, above", 100, -1000, 3, 104, 0, false},
		{"falling, the last one", 0, -1000, 3, -65538, 65535, true},
		{"falling, behind the last one", 0, -1000, 3, -65539, 0, false},
		{"falling, rounded", 0, -500, 3, -54, 101, true},
		{"falling in steps", 0, -10000, 3, -13, 1, true},
		{"falling, between steps", 0, -10000, 3, -14, 0, false},
		{"level", 10, 0, 3, 13, 0, true},
		{"level, below", 10, 0, 3, 6, 0, false},
		{"level, above", 10, 0, 3, 14, 0, false},
		{"the greatest value", 0, 1000, 3, math.MaxInt, 0, false},
		{"the least value", 0, 1000, 3, math.MinInt, 0, false},
		{"a value that only nothing contains", 0, 1000, 3, api.Unbounded, 0, false},
	}
	for _, x := range l {
		s := api.Sensor{Kind: api.SenseFlow, Offset: x.offset, Scale: x.scale, Error: x.error, Life: 1}
		wantRaw(t, s, x.value, x.want, x.found)
	}
}

// P5.4: of gas what is less than 0 counts as 0.
func TestRawOfGas(t *testing.T) {
	for _, kind := range kinds()[:2] {
		rising := api.Sensor{Kind: kind, Offset: -50, Scale: 1000, Error: 3, Life: 1}
		wantRaw(t, rising, 0, 0, true)
		wantRaw(t, rising, 1, 48, true)
		wantRaw(t, rising, -1, 0, false)
		wantRaw(t, rising, math.MinInt, 0, false)
		falling := api.Sensor{Kind: kind, Offset: 50, Scale: -1000, Error: 3, Life: 1}
		wantRaw(t, falling, 53, 0, true)
		wantRaw(t, falling, 0, 47, true)
		wantRaw(t, falling, -1, 0, false)
		wantRaw(t, falling, 54, 0, false)
		low := api.Sensor{Kind: kind, Offset: -3, Scale: -1000, Error: 5, Life: 1}
		wantRaw(t, low, 2, 0, true)
		wantRaw(t, low, 0, 0, true)
		wantRaw(t, low, 3, 0, false)
	}
}

// P5.4: states stand for themselves, whatever the scale is.
func TestRawOfStates(t *testing.T) {
	for _, x := range []struct{ kind, states int }{{api.SenseSmoke, 2}, {api.SenseFan, 3}, {api.SenseDoor, 6}} {
		for _, scale := range []int{-1000000, -1, 0, 1, 1000000} {
			s := api.Sensor{Kind: x.kind, Offset: 5, Scale: scale, Error: 9, Life: 1}
			for value := -3; value < 12; value++ {
				if value >= 0 && value < x.states {
					wantRaw(t, s, value, value, true)
					continue
				}
				wantRaw(t, s, value, 0, false)
			}
			for _, value := range []int{65535, 65536, api.Unbounded, -api.Unbounded, math.MaxInt, math.MinInt} {
				wantRaw(t, s, value, 0, false)
			}
		}
	}
}

// P5.4: there is none for a sensor that is none.
func TestRawOfOddSensors(t *testing.T) {
	for _, kind := range kinds() {
		for _, s := range odd(kind) {
			for _, value := range []int{0, 1, 100, api.Unbounded, math.MaxInt, math.MinInt} {
				wantRaw(t, s, value, 0, false)
			}
		}
	}
}

// P5.4: of many made sensors the least raw number is the one that a search through all of them finds.
func TestRawOfMade(t *testing.T) {
	n := numbers(3)
	for range 1000 {
		s := n.sensor(n.next(api.SenseGas, api.SenseDoor))
		value := n.next(-20, 20)
		if n.next(0, 3) > 0 {
			v := Value(s, n.next(0, api.MaxRaw))
			value = []int{v.Low, v.High, v.Low - 1, v.High + 1}[n.next(0, 3)]
		}
		want, found := rawByDefinition(s, value)
		wantRaw(t, s, value, want, found)
	}
}
