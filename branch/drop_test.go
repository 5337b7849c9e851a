package branch

import (
	"math"
	"math/big"
	"testing"

	"minecontrol/api"
	"minecontrol/door"
	"minecontrol/fan"
)

// wantDrop checks what Drop answers.
func wantDrop(t *testing.T, a api.Air, s api.Setting, road, flow int, want api.Span) {
	t.Helper()
	if got := Drop(a, s, road, flow); got != want {
		t.Errorf("%+v, road %d at %d: %v, want %v", s, road, flow, got, want)
	}
}

// alone returns an air with one road, from a place below ground to the surface.
func alone(rest, lift api.Span) api.Air {
	return api.Air{Mine: api.Mine{
		Places: []api.Place{{Surface: true}, {}},
		Roads:  []api.Road{roadOf(1, 0, rest, lift)},
	}}
}

// P9.2: the examples of the document, and a road with nothing but a resistance.
func TestDropExample(t *testing.T) {
	a := alone(exactly(2), exactly(0))
	for _, x := range [][2]int{{10, 200}, {-10, -200}, {0, 0}, {1, 2}, {-1, -2}, {9, 162}, {1 << 20, 1 << 41}, {-1 << 20, -1 << 41}, {1<<20 + 1, 1<<41 + 1<<22 + 2}, {-1<<20 - 1, -1<<41 - 1<<22 - 2}} {
		wantDrop(t, a, api.Setting{}, 0, x[0], exactly(x[1]))
	}
	lifted := alone(exactly(1), exactly(-100))
	wantDrop(t, lifted, api.Setting{}, 0, 0, exactly(100))
	wantDrop(t, lifted, api.Setting{}, 0, 3, exactly(109))
	wantDrop(t, lifted, api.Setting{}, 0, -3, exactly(91))
}

// P9.2: spans of the resistance and of the lift, in both directions.
func TestDropOfSpans(t *testing.T) {
	a := alone(spanOf(3, 5), spanOf(-20, 30))
	l := []struct {
		flow int
		want api.Span
	}{
		{0, spanOf(-30, 20)},
		{1, spanOf(-27, 25)},
		{-1, spanOf(-35, 17)},
		{2, spanOf(-18, 40)},
		{-2, spanOf(-50, 8)},
		{10, spanOf(270, 520)},
		{-10, spanOf(-530, -280)},
	}
	for _, x := range l {
		wantDrop(t, a, api.Setting{}, 0, x.flow, x.want)
	}
	// Where a road begins does not matter, nor whether people can go there, nor how long it is.
	b := with(alone(spanOf(3, 5), spanOf(-20, 30)), func(a *api.Air) {
		r := &a.Mine.Roads[0]
		r.From, r.To, r.Walk, r.Length, r.Area = 0, 1, true, 5, 5
	})
	for _, x := range l {
		wantDrop(t, b, api.Setting{}, 0, x.flow, x.want)
	}
}

// P9.2: all doors of the road and no others add their Rests.
func TestDropWithDoors(t *testing.T) {
	l := []struct {
		doors []int
		road  int
		flow  int
		want  api.Span
	}{
		{[]int{0, 0, 0, 0}, 1, 2, spanOf(4*61-30, 4*63+20)},
		{[]int{1, 0, 0, 0}, 1, 2, spanOf(4*21-30, 4*23+20)},
		{[]int{0, 0, 1, 0}, 1, 2, spanOf(4*53-30, 4*55+20)},
		{[]int{1, 2, 1, 1}, 1, 2, spanOf(4*13-30, 4*15+20)},
		{[]int{-1, 0, 0, 0}, 1, 2, spanOf(4*21-30, 4*63+20)},
		{[]int{-1, 0, -1, 0}, 1, 2, spanOf(4*13-30, 4*63+20)},
		{[]int{-1, 0, -1, 0}, 1, -2, spanOf(-4*63-30, -4*13+20)},
		{[]int{-1, 0, -1, 0}, 1, 0, spanOf(-30, 20)},
		{[]int{0, 0, 0, 0}, 0, 2, exactly(8)},
		{[]int{-1, -1, -1, -1}, 0, 2, exactly(8)},
		{[]int{0, 0, 0, 0}, 2, 1, spanOf(901-7, 904-7)},
		{[]int{0, 1, 0, 0}, 2, 1, spanOf(71-7, 74-7)},
		{[]int{0, 2, 0, 0}, 2, 1, spanOf(2-7, 5-7)},
		{[]int{0, -1, 0, 0}, 2, -1, spanOf(-904-7, -2-7)},
	}
	for _, x := range l {
		wantDrop(t, usual(), api.Setting{Fans: []int{0, 0, 0}, Doors: x.doors}, x.road, x.flow, x.want)
	}
}

// P9.2: all fans of the road and no others raise the pressure.
func TestDropWithFans(t *testing.T) {
	// With all doors of the road 1 open, the road alone has from 13 - 30 to 15 + 20 at the flow 1, and from -15 - 30 to -13 + 20 at -1.
	l := []struct {
		fans []int
		road int
		flow int
		want api.Span
	}{
		{[]int{0, 0, 0}, 1, 1, spanOf(-17, 35)},
		{[]int{1, 0, 0}, 1, 1, spanOf(-17-97, 35-96)},
		{[]int{2, 0, 0}, 1, 1, spanOf(-17+100, 35+100)},
		{[]int{-1, 0, 0}, 1, 1, spanOf(-17-97, 35+100)},
		{[]int{0, 0, 1}, 1, 1, spanOf(-17+50, 35+50)},
		{[]int{0, 0, 2}, 1, 1, spanOf(-17-30, 35-30)},
		{[]int{0, 0, -1}, 1, 1, spanOf(-17-30, 35+50)},
		{[]int{1, 0, 1}, 1, 1, spanOf(-17-97+50, 35-96+50)},
		{[]int{-1, 0, -1}, 1, 1, spanOf(-17-97-30, 35+100+50)},
		{[]int{1, 0, 0}, 1, -1, spanOf(-45-100, 7-100)},
		{[]int{2, 0, 0}, 1, -1, spanOf(-45+96, 7+97)},
		{[]int{0, 0, 1}, 1, -1, spanOf(-45+30, 7+30)},
		{[]int{-1, 2, -1}, 1, -1, spanOf(-45-100-50, 7+97+30)},
		{[]int{1, 0, 1}, 1, 0, spanOf(-30-100+40, 20-100+40)},
		{[]int{0, 1, 0}, 1, 1, spanOf(-17, 35)},
		{[]int{1, 0, 1}, 2, 1, spanOf(2-7, 5-7)},
		{[]int{0, 1, 0}, 2, 1, spanOf(2-7-40, 5-7-40)},
		{[]int{0, -1, 0}, 2, 1, spanOf(2-7-40, 5-7+40)},
		{[]int{-1, -1, -1}, 0, 7, exactly(98)},
	}
	for _, x := range l {
		wantDrop(t, usual(), api.Setting{Fans: x.fans, Doors: []int{1, 2, 1, 0}}, x.road, x.flow, x.want)
	}
}

// P9.2: all numbers at their limits, where a sum of all is nearly as great as an int can be.
func TestDropAtLimits(t *testing.T) {
	a := largest()
	fans, shut := make([]int, 8), make([]int, 16)
	greatest := (1<<20 + 1) * (1<<20 + 1)
	wantDrop(t, a, api.Setting{Fans: fans, Doors: shut}, 127, 1<<20+1, spanOf((16<<18+1)*greatest-1<<41, 17<<18*greatest+1<<41))
	wantDrop(t, a, api.Setting{Fans: fans, Doors: shut}, 127, -1<<20-1, spanOf(-17<<18*greatest-1<<41, -(16<<18+1)*greatest+1<<41))
	wantDrop(t, a, unknown(a), 0, 1<<20+1, spanOf(greatest-1<<41, 1<<18*greatest+1<<41))
	// Each fan can blow with 2^41 at most, at such a flow in one direction only; in the other one it has 2^38.
	wantDrop(t, a, unknown(a), 127, 1<<20+1, spanOf(greatest-1<<41-8<<38, 17<<18*greatest+1<<41+8<<41))
	wantDrop(t, a, unknown(a), 127, -1<<20-1, spanOf(-17<<18*greatest-1<<41-8<<41, -greatest+1<<41+8<<38))
}

// P9.2: nothing for a flow out of its range, a road that there is not, and one that is closed.
func TestDropOfNothing(t *testing.T) {
	for _, flow := range []int{-1<<20 - 2, 1<<20 + 2, -1 << 32, 1 << 32, math.MinInt, math.MinInt + 1, math.MaxInt} {
		for road := -1; road <= 4; road++ {
			wantDrop(t, usual(), still(), road, flow, api.Span{})
			wantDrop(t, usual(), unknown(usual()), road, flow, api.Span{})
		}
	}
	for _, flow := range []int{-1<<20 - 1, -5, 0, 1, 5, 1<<20 + 1} {
		for _, road := range []int{-1, 3, 4, 127, 1 << 32, -1 << 32, math.MinInt, math.MaxInt} {
			wantDrop(t, usual(), still(), road, flow, api.Span{})
		}
		wantDrop(t, api.Air{}, api.Setting{}, 0, flow, api.Span{})
	}
	opened := with(usual(), func(a *api.Air) { a.Mine.Roads[3].Closed = false })
	wantDrop(t, opened, still(), 3, 2, exactly(15*4-5))
	for road := range 3 {
		closed := with(usual(), func(a *api.Air) { a.Mine.Roads[road].Closed = true })
		wantDrop(t, closed, still(), road, 2, api.Span{})
	}
}

// P9.2: nothing if Right does not hold.
func TestDropNotRight(t *testing.T) {
	for flow := -2; flow <= 2; flow++ {
		for road := range 4 {
			for _, s := range oddSettings() {
				wantDrop(t, usual(), s, road, flow, api.Span{})
			}
			for _, f := range faults() {
				a := with(usual(), f.make)
				wantDrop(t, a, still(), road, flow, api.Span{})
				wantDrop(t, a, unknown(a), road, flow, api.Span{})
			}
		}
	}
}

// maker makes numbers that follow one another without a rule that shows.
type maker uint64

// below returns a number from 0 to n - 1.
func (m *maker) below(n int) int {
	*m = *m*6364136223846793005 + 1442695040888963407
	return int(*m >> 33 % maker(n))
}

// span returns a span from low to high or within.
func (m *maker) span(low, high int) api.Span {
	n := low + m.below(high-low+1)
	return spanOf(n, n+m.below(high-n+1))
}

// fan returns a fan in a road.
func (m *maker) fan(road, scale int) api.Fan {
	f := fanIn(road, m.below(2) == 1)
	flow, pressure := m.below(2*scale)-scale, 5*scale*scale
	for range 1 + m.below(8) {
		f.Curve = append(f.Curve, api.Point{Flow: flow, Pressure: pressure})
		flow, pressure = flow+1+m.below(scale), max(pressure-m.below(scale*scale), 0)
	}
	return f
}

// made is an air with a setting, and how far its flows of interest go.
type made struct {
	a     api.Air
	s     api.Setting
	scale int
}

// air returns an air with one road, with fans and doors, and a setting.
func (m *maker) air() made {
	scale := 1 + m.below(4)<<m.below(16)
	x := made{a: alone(m.span(1, 1+m.below(9)), m.span(-scale*scale, scale*scale)), scale: scale}
	for range m.below(4) {
		x.a.Fans = append(x.a.Fans, m.fan(0, scale))
		x.s.Fans = append(x.s.Fans, m.below(4)-1)
	}
	for range m.below(4) {
		rest := m.below(4)
		x.a.Doors = append(x.a.Doors, doorIn(0, -1, rest+2+m.below(7), rest+1, rest))
		x.s.Doors = append(x.s.Doors, m.below(4)-1)
	}
	return x
}

// madeAirs are airs with one road.
func madeAirs(n int) []made {
	var l []made
	m := maker(12345)
	for range n {
		l = append(l, m.air())
	}
	return l
}

// flows are flows of interest of an air.
func (x made) flows() []int {
	l := []int{-1<<20 - 1, -1 << 20, 1 << 20, 1<<20 + 1}
	for i := -40; i <= 40; i++ {
		l = append(l, i*x.scale/10, i)
	}
	return l
}

// ends are the ends of a span.
func ends(s api.Span) []int { return []int{s.Low, s.High} }

// differences are the differences of pressure in the road 0 at a flow, for all choices of ends of what is known in spans.
func differences(x made, flow int) []*big.Int {
	rests := ends(x.a.Mine.Roads[0].Rest)
	for i, d := range x.a.Doors {
		var sums []int
		for _, end := range ends(door.Rest(d, x.s.Doors[i])) {
			for _, rest := range rests {
				sums = append(sums, rest+end)
			}
		}
		rests = sums
	}
	raised := ends(x.a.Mine.Roads[0].Lift)
	for i, f := range x.a.Fans {
		var sums []int
		for _, end := range ends(fan.At(f, x.s.Fans[i], flow)) {
			for _, n := range raised {
				sums = append(sums, n+end)
			}
		}
		raised = sums
	}
	var l []*big.Int
	square := new(big.Int).Mul(big.NewInt(int64(flow)), new(big.Int).Abs(big.NewInt(int64(flow))))
	for _, rest := range rests {
		for _, n := range raised {
			product := new(big.Int).Mul(big.NewInt(int64(rest)), square)
			l = append(l, product.Sub(product, big.NewInt(int64(n))))
		}
	}
	return l
}

// P9.2: Low and High are the least and the greatest of all differences, for many made airs.
func TestDropIsExact(t *testing.T) {
	for _, x := range madeAirs(120) {
		if !Right(x.a, x.s) {
			t.Fatalf("%+v is not right", x)
		}
		for _, flow := range x.flows() {
			l := differences(x, flow)
			low, high := l[0], l[0]
			for _, n := range l {
				if n.Cmp(low) < 0 {
					low = n
				}
				if n.Cmp(high) > 0 {
					high = n
				}
			}
			wantDrop(t, x.a, x.s, 0, flow, spanOf(int(low.Int64()), int(high.Int64())))
		}
	}
}

// Chapter 9, consequences: both ends of Drop increase strictly with the flow.
func TestDropIncreases(t *testing.T) {
	largest := made{largest(), unknown(largest()), 1 << 18}
	for _, x := range append(madeAirs(60), largest) {
		for road := range x.a.Mine.Roads {
			for _, flow := range x.flows() {
				if flow > 1<<20 || road > 0 && road < 127 {
					continue
				}
				at, behind := Drop(x.a, x.s, road, flow), Drop(x.a, x.s, road, flow+1)
				if at.Low >= behind.Low || at.High >= behind.High || at.Low > at.High {
					t.Fatalf("%+v at %d: %v, then %v", x, flow, at, behind)
				}
			}
		}
	}
}
