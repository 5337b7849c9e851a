package door

import (
	"math"
	"testing"

	"minecontrol/api"
)

// spanOf returns a span.
func spanOf(low, high int) api.Span { return api.Span{Low: low, High: high} }

// wantRest checks what Rest answers.
func wantRest(t *testing.T, d api.Door, state int, want api.Span) {
	t.Helper()
	if got := Rest(d, state); got != want {
		t.Errorf("%+v in the state %d: %v, want %v", d, state, got, want)
	}
}

// otherStates are numbers that are no state of a door with so many Rests.
func otherStates(rests int) []int {
	return []int{-2, -3, rests, rests + 1, 7, 255, 1 << 32, 1<<32 - 1, -1 << 32, math.MinInt, math.MinInt + 1, math.MaxInt}
}

// P8.2: the example of the document, and each state of other doors.
func TestRest(t *testing.T) {
	l := []struct {
		d        api.Door
		notKnown api.Span
	}{
		{regulator(5000, 10), spanOf(10, 5000)},
		{regulator(1, 0), spanOf(0, 1)},
		{regulator(1<<18, 0), spanOf(0, 1<<18)},
		{regulator(9, 8, 7, 6, 5, 4), spanOf(4, 9)},
		{half(6, 300, 200, 100), spanOf(100, 300)},
	}
	for _, x := range l {
		for state, rest := range x.d.Rests {
			wantRest(t, x.d, state, spanOf(rest, rest))
		}
		wantRest(t, x.d, -1, x.notKnown)
	}
	example := regulator(5000, 10)
	wantRest(t, example, 0, spanOf(5000, 5000))
	wantRest(t, example, 1, spanOf(10, 10))
	wantRest(t, example, -1, spanOf(10, 5000))
}

// P8.2: nothing for a state that there is not.
func TestRestOtherStates(t *testing.T) {
	for rests := range 8 {
		for _, state := range otherStates(rests) {
			wantRest(t, regulator(falling(rests)...), state, api.Span{})
		}
	}
}

// P8.2: nothing for a door without Rests.
func TestRestWithoutRests(t *testing.T) {
	for _, d := range []api.Door{{}, regulator(), regulator([]int{}...), half(1)} {
		for state := -3; state <= 7; state++ {
			wantRest(t, d, state, api.Span{})
		}
	}
}

// P8.2: Rest asks for no more than Rests, so a door with errors has its states, too.
func TestRestOfOddDoors(t *testing.T) {
	l := []struct {
		d        api.Door
		notKnown api.Span
	}{
		{api.Door{Road: -1, Other: -9, Rests: []int{5, 1}}, spanOf(1, 5)},
		{regulator(5), spanOf(5, 5)},
		{regulator(1, 5), spanOf(1, 5)},
		{regulator(5, 5), spanOf(5, 5)},
		{regulator(5, 9, 7), spanOf(5, 9)},
		{regulator(5, 2, 7), spanOf(2, 7)},
		{regulator(7, 2, 5), spanOf(2, 7)},
		{regulator(7, 9, 5), spanOf(5, 9)},
		{regulator(-3, -8), spanOf(-8, -3)},
		{regulator(0, -8), spanOf(-8, 0)},
		{regulator(8, 7, 6, 5, 4, 3, 2, 1), spanOf(1, 8)},
		{regulator(1<<18+1, 1<<18), spanOf(1<<18, 1<<18+1)},
		{regulator(math.MaxInt, math.MinInt), spanOf(math.MinInt, math.MaxInt)},
	}
	for _, x := range l {
		for state, rest := range x.d.Rests {
			wantRest(t, x.d, state, spanOf(rest, rest))
		}
		wantRest(t, x.d, -1, x.notKnown)
		wantRest(t, x.d, -2, api.Span{})
		wantRest(t, x.d, len(x.d.Rests), api.Span{})
	}
}

// P8.2: of all doors with up to 4 Rests from -1 to 2, the not known state has each Rest in it and no less.
func TestRestIsHull(t *testing.T) {
	for rests := 1; rests <= 4; rests++ {
		l := make([]int, rests)
		for n := range power(4, rests) {
			want := spanOf(9, -9)
			for i := range l {
				l[i] = n%4 - 1
				n /= 4
				want = spanOf(min(want.Low, l[i]), max(want.High, l[i]))
			}
			wantRest(t, regulator(l...), -1, want)
		}
	}
}
