package fan

import (
	"math"
	"math/big"
	"testing"

	"minecontrol/api"
)

// spanOf returns a span.
func spanOf(low, high int) api.Span { return api.Span{Low: low, High: high} }

// wantCurve checks what Curve answers.
func wantCurve(t *testing.T, f api.Fan, flow int, want api.Span) {
	t.Helper()
	if got := Curve(f, flow); got != want {
		t.Errorf("%+v at %d: %v, want %v", f, flow, got, want)
	}
}

// P7.2: the example of the document, and the flows around it.
func TestCurveExample(t *testing.T) {
	f := made(api.Point{Flow: 0, Pressure: 100}, api.Point{Flow: 3, Pressure: 90})
	l := []struct {
		flow int
		want api.Span
	}{
		{math.MinInt, spanOf(100, 100)},
		{-5, spanOf(100, 100)},
		{-1, spanOf(100, 100)},
		{0, spanOf(100, 100)},
		{1, spanOf(96, 97)},
		{2, spanOf(93, 94)},
		{3, spanOf(90, 90)},
		{4, spanOf(90, 90)},
		{math.MaxInt, spanOf(90, 90)},
	}
	for _, x := range l {
		wantCurve(t, f, x.flow, x.want)
	}
}

// P7.2: lines between points, the points themselves, and what lies beyond them.
func TestCurve(t *testing.T) {
	bent := []api.Point{{Flow: -10, Pressure: 1000}, {Flow: 0, Pressure: 900}, {Flow: 1, Pressure: 200}, {Flow: 8, Pressure: 200}, {Flow: 12, Pressure: 190}}
	whole := []api.Point{{Flow: -1 << 20, Pressure: 1 << 41}, {Flow: 1 << 20, Pressure: 0}}
	steep := []api.Point{{Flow: -1 << 20, Pressure: 1 << 41}, {Flow: 1<<20 - 1, Pressure: 0}}
	flat := []api.Point{{Flow: -1 << 20, Pressure: 1 << 41}, {Flow: 1 << 20, Pressure: 1<<41 - 1}}
	l := []struct {
		curve []api.Point
		flow  int
		want  api.Span
	}{
		{bent, -11, spanOf(1000, 1000)},
		{bent, -10, spanOf(1000, 1000)},
		{bent, -9, spanOf(990, 990)},
		{bent, -1, spanOf(910, 910)},
		{bent, 0, spanOf(900, 900)},
		{bent, 1, spanOf(200, 200)},
		{bent, 2, spanOf(200, 200)},
		{bent, 7, spanOf(200, 200)},
		{bent, 8, spanOf(200, 200)},
		{bent, 9, spanOf(197, 198)},
		{bent, 10, spanOf(195, 195)},
		{bent, 11, spanOf(192, 193)},
		{bent, 12, spanOf(190, 190)},
		{bent, 13, spanOf(190, 190)},
		{bent[2:3], -1 << 20, spanOf(200, 200)},
		{bent[2:3], 1, spanOf(200, 200)},
		{bent[2:3], 1<<20 + 1, spanOf(200, 200)},
		{whole, -1<<20 - 1, spanOf(1<<41, 1<<41)},
		{whole, -1<<20 + 1, spanOf(1<<41-1<<20, 1<<41-1<<20)},
		{whole, 0, spanOf(1<<40, 1<<40)},
		{whole, 1<<20 - 1, spanOf(1<<20, 1<<20)},
		{whole, 1 << 20, spanOf(0, 0)},
		{steep, 1<<20 - 2, spanOf(1<<20, 1<<20+1)},
		{flat, -1<<20 + 1, spanOf(1<<41-1, 1<<41)},
		{flat, 1<<20 - 1, spanOf(1<<41-1, 1<<41)},
		{flat, 1 << 20, spanOf(1<<41-1, 1<<41-1)},
		{[]api.Point{{}}, 0, spanOf(0, 0)},
		{[]api.Point{{}}, 7, spanOf(0, 0)},
	}
	for _, x := range l {
		wantCurve(t, made(x.curve...), x.flow, x.want)
	}
}

// P7.2: the pressure is that in the direction in which the fan blows, whichever it is.
func TestCurveOfOtherFields(t *testing.T) {
	for _, f := range goodFans() {
		for _, flow := range flowsOf(f) {
			want := Curve(f, flow)
			for _, set := range []bool{false, true} {
				g := f
				g.Road, g.Back, g.Auxiliary = 9, true, set
				wantCurve(t, g, flow, want)
			}
		}
	}
}

// P7.2: nothing for a fan that has an error.
func TestCurveOfOddFans(t *testing.T) {
	for _, x := range oddFans() {
		for _, flow := range []int{math.MinInt, -1<<20 - 1, -5, 0, 1, 2, 5, 1<<20 + 1, math.MaxInt} {
			wantCurve(t, x.f, flow, api.Span{})
		}
	}
}

// flowsOf are flows around the points of a fan, and between them.
func flowsOf(f api.Fan) []int {
	l := []int{math.MinInt, math.MinInt + 1, math.MaxInt, -1 << 50, 1 << 50}
	for i, p := range f.Curve {
		for by := -3; by <= 3; by++ {
			l = append(l, p.Flow+by)
		}
		if i > 0 {
			width := p.Flow - f.Curve[i-1].Flow
			l = append(l, p.Flow-width/2, p.Flow-width/3, p.Flow-width/7, p.Flow-width/5*4)
		}
	}
	return l
}

// exactPressure returns the pressure of a fan at a flow, as a fraction.
func exactPressure(f api.Fan, flow int) *big.Rat {
	for i, p := range f.Curve {
		if flow > p.Flow {
			continue
		}
		if i == 0 {
			return big.NewRat(int64(p.Pressure), 1)
		}
		before := f.Curve[i-1]
		// The mean of both pressures, each with the way to the other point as its weight.
		sum := new(big.Rat).Mul(big.NewRat(int64(before.Pressure), 1), big.NewRat(int64(p.Flow-flow), 1))
		sum.Add(sum, new(big.Rat).Mul(big.NewRat(int64(p.Pressure), 1), big.NewRat(int64(flow-before.Flow), 1)))
		return sum.Quo(sum, big.NewRat(int64(p.Flow-before.Flow), 1))
	}
	return big.NewRat(int64(f.Curve[len(f.Curve)-1].Pressure), 1)
}

// outward returns the least span of whole numbers around a fraction that is not less than 0.
func outward(x *big.Rat) api.Span {
	low, rest := new(big.Int).QuoRem(x.Num(), x.Denom(), new(big.Int))
	return spanOf(int(low.Int64()), int(low.Int64())+rest.Sign())
}

// madeFans are fans with curves of which numbers follow one another without a rule that shows.
func madeFans() []api.Fan {
	var l []api.Fan
	state := uint64(12345)
	next := func(below int) int {
		state = state*6364136223846793005 + 1442695040888963407
		return int(state >> 33 % uint64(below))
	}
	for range 300 {
		points, width, height := 1+next(8), 1+next(1<<17), 1+next(1<<20)<<next(18)
		curve := make([]api.Point, points)
		flow, pressure := -next(1<<20), 1<<41-next(1<<20)
		for i := range curve {
			curve[i] = api.Point{Flow: flow, Pressure: pressure}
			flow, pressure = flow+1+next(width), max(pressure-next(height), 0)
		}
		l = append(l, made(curve...))
	}
	return l
}

// P7.2: the pressure is what fractions say, for many made curves and at all limits.
func TestCurveIsExact(t *testing.T) {
	for _, f := range append(goodFans(), madeFans()...) {
		if code := Check(f); code != api.OK {
			t.Fatalf("%+v: %d", f, code)
		}
		for _, flow := range flowsOf(f) {
			wantCurve(t, f, flow, outward(exactPressure(f, flow)))
		}
	}
}
