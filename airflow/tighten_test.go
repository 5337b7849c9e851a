package airflow_test

import (
	"math"
	"slices"
	"testing"

	"minecontrol/airflow"
	"minecontrol/api"
	"minecontrol/window"
)

// sensorOf returns a sensor of the flow of a road, which lives 60 seconds and drifts by 1 in 10.
func sensorOf(road int) api.Sensor {
	return api.Sensor{Address: 5, Kind: api.SenseFlow, Target: road, Scale: 1000, Drift: 100, Life: 60}
}

// kindOf returns a sensor of another kind.
func kindOf(kind, target int) api.Sensor {
	s := sensorOf(target)
	s.Kind = kind
	return s
}

// said returns what a sensor said at a time.
func said(sensor, time, low, high int) api.Measure {
	return api.Measure{Sensor: sensor, Time: time, Span: spanOf(low, high)}
}

// tightening is what Tighten is asked at 20.
type tightening struct {
	flows []api.Span
	l     []api.Sensor
	m     []api.Measure
}

// wantTighten checks what Tighten answers.
func wantTighten(t *testing.T, name string, x tightening, want []api.Span, against ...int) {
	t.Helper()
	if got, e := airflow.Tighten(x.flows, x.l, x.m, 20); !same(got, want) || !same(e, against) {
		t.Errorf("%s: %v and %v, want %v and %v", name, got, e, want, against)
	}
}

// forty returns what Tighten is asked of the flow from 40 to 60 of one road, with one sensor.
func forty(m ...api.Measure) tightening {
	return tightening{flowsOf(spanOf(40, 60)), []api.Sensor{sensorOf(0)}, m}
}

// P13.3: a measurement of one road; the first two are the example of the document.
func TestTighten(t *testing.T) {
	wantTighten(t, "55 to 70", forty(said(0, 20, 55, 70)), flowsOf(spanOf(55, 60)))
	wantTighten(t, "70 to 80", forty(said(0, 20, 70, 80)), flowsOf(nothing()), 0)
	wantTighten(t, "none", forty(), flowsOf(spanOf(40, 60)))
	wantTighten(t, "below", forty(said(0, 20, 20, 45)), flowsOf(spanOf(40, 45)))
	wantTighten(t, "within", forty(said(0, 20, 45, 50)), flowsOf(spanOf(45, 50)))
	wantTighten(t, "around", forty(said(0, 20, 0, 100)), flowsOf(spanOf(40, 60)))
	wantTighten(t, "the last number", forty(said(0, 20, 60, 80)), flowsOf(exactly(60)))
	wantTighten(t, "behind the last number", forty(said(0, 20, 61, 80)), flowsOf(nothing()), 0)
	wantTighten(t, "the first number", forty(said(0, 20, 0, 40)), flowsOf(exactly(40)))
	wantTighten(t, "ahead of the first number", forty(said(0, 20, 0, 39)), flowsOf(nothing()), 0)
	wantTighten(t, "nothing", forty(said(0, 20, -1<<50, 1<<50)), flowsOf(spanOf(40, 60)))
}

// P13.3: measurements count as they are at the time: they drift, end with the life of the sensor, and do not yet count ahead of their own time.
func TestTightenWithTime(t *testing.T) {
	x := forty(said(0, 20, 65, 80))
	for _, y := range []struct {
		time    int
		want    api.Span
		against []int
	}{
		{19, spanOf(40, 60), nil},
		{math.MinInt, spanOf(40, 60), nil},
		{20, nothing(), []int{0}},
		{60, nothing(), []int{0}},
		{61, exactly(60), nil},
		{71, spanOf(59, 60), nil},
		{80, spanOf(59, 60), nil},
		{81, spanOf(40, 60), nil},
		{math.MaxInt, spanOf(40, 60), nil},
	} {
		got, against := airflow.Tighten(x.flows, x.l, x.m, y.time)
		if !same(got, flowsOf(y.want)) || !same(against, y.against) {
			t.Errorf("at %d: %v and %v, want %v and %v", y.time, got, against, y.want, y.against)
		}
	}
}

// P13.3: a measurement of a sensor that is not right says nothing.
func TestTightenOddSensors(t *testing.T) {
	for _, change := range []func(s *api.Sensor){
		func(s *api.Sensor) { s.Address = 256 },
		func(s *api.Sensor) { s.Drift = -1 },
		func(s *api.Sensor) { s.Life = 0 },
		func(s *api.Sensor) { s.Scale = 1000001 },
	} {
		x := forty(said(0, 20, 70, 80))
		change(&x.l[0])
		wantTighten(t, "an odd sensor", x, flowsOf(spanOf(40, 60)))
	}
}

// P13.3: only measurements of sensors that there are, of a flow, and of a road that there is, count.
func TestTightenOthersDoNotCount(t *testing.T) {
	flows := flowsOf(spanOf(40, 60), spanOf(-9, 9))
	l := []api.Sensor{
		kindOf(api.SenseGas, 0), kindOf(api.SenseCO, 0), kindOf(api.SenseSmoke, 0), kindOf(api.SenseFan, 0), kindOf(api.SenseDoor, 0), kindOf(0, 0), kindOf(7, 0),
		sensorOf(2), sensorOf(-1), sensorOf(math.MaxInt), sensorOf(math.MinInt),
	}
	for number := range l {
		wantTighten(t, "a sensor", tightening{flows, l, []api.Measure{said(number, 20, 70, 80)}}, flows)
		wantTighten(t, "a sensor", tightening{flows, l, []api.Measure{said(number, 20, 1, 1)}}, flows)
	}
	l = append(l, sensorOf(1))
	for _, number := range []int{-1, 12, 13, 1 << 32, math.MaxInt, math.MinInt} {
		wantTighten(t, "no sensor", tightening{flows, l, []api.Measure{said(number, 20, 70, 80)}}, flows)
	}
	wantTighten(t, "the last sensor", tightening{flows, l, []api.Measure{said(11, 20, 3, 80)}}, flowsOf(spanOf(40, 60), spanOf(3, 9)))
	wantTighten(t, "no sensors", tightening{flows, nil, []api.Measure{said(0, 20, 70, 80)}}, flows)
	wantTighten(t, "no flows", tightening{nil, l, []api.Measure{said(11, 20, 70, 80)}}, nil)
}

// P13.3: several measurements of one road, also of one sensor, count together.
func TestTightenSeveral(t *testing.T) {
	l := []api.Sensor{sensorOf(1), sensorOf(0), sensorOf(1)}
	flows := flowsOf(spanOf(-50, 50), spanOf(-50, 50))
	wantTighten(t, "two sensors", tightening{flows, l, []api.Measure{said(2, 20, -60, 10), said(0, 20, -5, 40)}}, flowsOf(spanOf(-50, 50), spanOf(-5, 10)))
	wantTighten(t, "one sensor twice", tightening{flows, l, []api.Measure{said(1, 20, -60, 10), said(1, 20, -5, 40)}}, flowsOf(spanOf(-5, 10), spanOf(-50, 50)))
	wantTighten(t, "one that is older", tightening{flows, l, []api.Measure{said(1, 20, 0, 10), said(1, 10, 5, 40)}}, flowsOf(spanOf(4, 10), spanOf(-50, 50)))
	wantTighten(t, "both roads", tightening{flows, l, []api.Measure{said(2, 20, 1, 2), said(1, 20, 3, 4)}}, flowsOf(spanOf(3, 4), spanOf(1, 2)))
}

// P13.3: the measurement that comes later contradicts, and of a contradicted road nothing is known, whatever else is said of it; other roads do not suffer.
func TestTightenContradiction(t *testing.T) {
	l := []api.Sensor{sensorOf(0), sensorOf(0), sensorOf(1), sensorOf(0)}
	flows := flowsOf(spanOf(40, 60), spanOf(-9, 9))
	low, high, good := said(0, 20, 40, 45), said(1, 20, 50, 55), said(3, 20, 42, 52)
	wantTighten(t, "the second one", tightening{flows, l, []api.Measure{low, high}}, flowsOf(nothing(), spanOf(-9, 9)), 1)
	wantTighten(t, "the other order", tightening{flows, l, []api.Measure{high, low}}, flowsOf(nothing(), spanOf(-9, 9)), 0)
	wantTighten(t, "with a good one behind", tightening{flows, l, []api.Measure{low, high, good}}, flowsOf(nothing(), spanOf(-9, 9)), 1)
	wantTighten(t, "with a good one ahead", tightening{flows, l, []api.Measure{good, high, low}}, flowsOf(nothing(), spanOf(-9, 9)), 0)
	wantTighten(t, "again", tightening{flows, l, []api.Measure{low, high, said(1, 20, 90, 99), said(3, 20, -7, -7), low}}, flowsOf(nothing(), spanOf(-9, 9)), 1)
	wantTighten(t, "another road", tightening{flows, l, []api.Measure{low, high, said(2, 20, 3, 99)}}, flowsOf(nothing(), spanOf(3, 9)), 1)
	wantTighten(t, "one sensor against itself", tightening{flows, l, []api.Measure{low, said(0, 20, 46, 60)}}, flowsOf(nothing(), spanOf(-9, 9)), 0)
	wantTighten(t, "one of two that is too old", tightening{flows, l, []api.Measure{said(0, -41, 40, 45), high}}, flowsOf(spanOf(50, 55), spanOf(-9, 9)))
}

// P13.3: the sensors that contradict ascend, in whatever order they come.
func TestTightenSensorsAscend(t *testing.T) {
	var x tightening
	var want []api.Span
	for road := range 5 {
		x.flows = append(x.flows, exactly(road))
		x.l = append(x.l, sensorOf((road+2)%5))
		want = append(want, nothing())
	}
	for _, number := range []int{3, 0, 4, 3, 2, 0, 1, 1} {
		x.m = append(x.m, said(number, 20, 70, 80))
	}
	wantTighten(t, "all", x, want, 0, 1, 2, 3, 4)
	x.m = x.m[:4]
	wantTighten(t, "three", x, flowsOf(nothing(), nothing(), nothing(), exactly(3), exactly(4)), 0, 3, 4)
}

// P13.3: with a span without a number no measurement has one in common, not even one that says nothing.
func TestTightenEmptySpans(t *testing.T) {
	l := []api.Sensor{sensorOf(0), sensorOf(1)}
	flows := flowsOf(spanOf(9, 5), spanOf(40, 60))
	wantTighten(t, "no measurement", tightening{flows, l, nil}, flows)
	wantTighten(t, "another road", tightening{flows, l, []api.Measure{said(1, 20, 40, 45)}}, flowsOf(spanOf(9, 5), spanOf(40, 45)))
	wantTighten(t, "a measurement", tightening{flows, l, []api.Measure{said(0, 20, 0, 90)}}, flowsOf(nothing(), spanOf(40, 60)), 0)
	wantTighten(t, "a measurement of nothing", tightening{flows, l, []api.Measure{said(0, 20, -1<<50, 1<<50)}}, flowsOf(nothing(), spanOf(40, 60)), 0)
	wantTighten(t, "an empty measurement", tightening{flows, l, []api.Measure{said(1, 20, 50, 45)}}, flowsOf(spanOf(9, 5), nothing()), 1)
}

// P13.3: flows beyond what is known of anything, and at the ends of their type.
func TestTightenGreatFlows(t *testing.T) {
	l := []api.Sensor{sensorOf(0)}
	m := []api.Measure{said(0, 20, -7, 1<<40)}
	wantTighten(t, "all numbers", tightening{flowsOf(spanOf(math.MinInt, math.MaxInt)), l, m}, flowsOf(spanOf(-7, 1<<40)))
	wantTighten(t, "nothing known", tightening{flowsOf(nothing()), l, m}, flowsOf(spanOf(-7, 1<<40)))
	wantTighten(t, "great ones", tightening{flowsOf(spanOf(1<<41, math.MaxInt)), l, m}, flowsOf(nothing()), 0)
	wantTighten(t, "least ones", tightening{flowsOf(exactly(math.MinInt)), l, m}, flowsOf(nothing()), 0)
}

// told returns the numbers from -12 to 12 that are in a flow and in all measurements of its road up to one that leaves none, and the sensors whose measurements leave none.
func told(x tightening, time int) (numbers [][]int, against []int) {
	for road, f := range x.flows {
		var left []int
		for n := -12; n <= 12; n++ {
			if !outside(n, f) {
				left = append(left, n)
			}
		}
		for _, m := range x.m {
			if m.Sensor < 0 || m.Sensor >= len(x.l) || x.l[m.Sensor].Kind != api.SenseFlow || x.l[m.Sensor].Target != road || len(left) == 0 {
				continue
			}
			says := window.At(x.l[m.Sensor], m, time)
			left = slices.DeleteFunc(left, func(n int) bool { return outside(n, says) })
			if len(left) == 0 {
				against = append(against, m.Sensor)
			}
		}
		numbers = append(numbers, left)
	}
	slices.Sort(against)
	return numbers, against
}

// tightening returns flows, sensors and measurements of small numbers.
func (m *maker) tightening() tightening {
	var x tightening
	roads := 1 + m.below(4)
	for range roads {
		x.flows = append(x.flows, m.span(-12, 12))
	}
	for range 1 + m.below(6) {
		s := sensorOf(m.upTo(roads))
		if m.below(6) == 0 {
			s.Kind = m.below(7)
		}
		x.l = append(x.l, s)
	}
	for range m.below(9) {
		low := m.upTo(11)
		x.m = append(x.m, said(m.below(len(x.l)+2)-1, m.below(60), low-m.below(6), low+m.below(12)))
	}
	return x
}

// P13.3: what chapter 13 says, number by number, for many made measurements.
func TestTightenOfMadeMeasurements(t *testing.T) {
	made, contradicted := maker(13579), 0
	for range 4000 {
		x := made.tightening()
		time := made.below(100)
		numbers, want := told(x, time)
		got, against := airflow.Tighten(x.flows, x.l, x.m, time)
		if len(got) != len(x.flows) || !same(against, want) {
			t.Fatalf("%+v at %d: %v and %v, want %v", x, time, got, against, want)
		}
		for road, left := range numbers {
			want := nothing()
			if len(left) > 0 {
				want = spanOf(left[0], left[len(left)-1])
			}
			if got[road] != want {
				t.Errorf("%+v at %d: the road %d has %v, want %v", x, time, road, got[road], want)
			}
		}
		contradicted += len(want)
	}
	if contradicted < 500 || contradicted > 6000 {
		t.Errorf("%d measurements contradict", contradicted)
	}
}

// R2: arguments stay as they are, what lies behind their ends does not count, and results are new, also where nothing changes.
func TestTightenLeavesArguments(t *testing.T) {
	flows := behind(flowsOf(spanOf(40, 60), spanOf(1, 2)), exactly(3))
	l := behind([]api.Sensor{sensorOf(1), sensorOf(0), sensorOf(2)}, sensorOf(0))
	m := behind([]api.Measure{said(1, 20, 50, 55), said(0, 20, 9, 9), said(3, 20, 0, 0), said(2, 20, 0, 0)}, said(1, 20, 51, 52))
	flowsBefore, sensorsBefore, measuresBefore := full(flows), full(l), full(m)
	for _, n := range []int{0, 1, 4} {
		got, _ := airflow.Tighten(flows, l, m[:n], 20)
		for road := range got {
			got[road] = exactly(77)
		}
	}
	wantTighten(t, "all", tightening{flows, l, m}, flowsOf(spanOf(50, 55), nothing()), 0)
	if !same(full(flows), flowsBefore) || !same(full(l), sensorsBefore) || !same(full(m), measuresBefore) {
		t.Error("arguments have changed")
	}
}
