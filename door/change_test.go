package door

import (
	"math"
	"slices"
	"testing"

	"minecontrol/api"
)

// change is Command or Seen.
type change struct {
	name string
	f    func(l []api.Door, states []int, door, state int) ([]int, api.Errno)
}

// changes are Command and Seen.
func changes() []change {
	return []change{{"Command", Command}, {"Seen", Seen}}
}

// wantChange checks what Command or Seen answers; without an error it is the states with that of the door changed.
func wantChange(t *testing.T, c change, l []api.Door, states []int, door, state int, want api.Errno) {
	t.Helper()
	got, code := c.f(l, states, door, state)
	switch {
	case code != want:
		t.Errorf("%s of %d to %d, states %v, doors %+v: %d, want %d", c.name, door, state, states, l, code, want)
	case code != api.OK && len(got) != 0:
		t.Errorf("%s of %d to %d, states %v: %v with the error %d", c.name, door, state, states, got, code)
	case code == api.OK && !isChanged(got, states, door, state):
		t.Errorf("%s of %d to %d, states %v: %v", c.name, door, state, states, got)
	}
}

// isChanged reports whether a list is another one but for one element.
func isChanged(l, from []int, i, n int) bool {
	return len(l) == len(from) && slices.Equal(l[:i], from[:i]) && l[i] == n && slices.Equal(l[i+1:], from[i+1:])
}

// five are two double doors, the doors 0 and 4 and the doors 1 and 2, and a single door between them.
func five() []api.Door {
	return []api.Door{half(4, 9, 5), half(2, 9, 7, 5), half(1, 9, 8, 6, 4), regulator(9, 3, 1), half(0, 9, 8, 7, 6, 5, 4)}
}

// P8.3: doors are ordered to each of their states.
func TestCommand(t *testing.T) {
	l := []struct {
		states []int
		door   int
		state  int
		want   []int
	}{
		{[]int{0, 0, 0, 0, 0}, 0, 1, []int{1, 0, 0, 0, 0}},
		{[]int{0, 0, 0, 0, 0}, 1, 2, []int{0, 2, 0, 0, 0}},
		{[]int{0, 0, 0, 0, 0}, 2, 3, []int{0, 0, 3, 0, 0}},
		{[]int{0, 0, 0, 0, 0}, 3, 2, []int{0, 0, 0, 2, 0}},
		{[]int{0, 0, 0, 0, 0}, 4, 5, []int{0, 0, 0, 0, 5}},
		{[]int{0, 0, 0, 0, 0}, 4, 0, []int{0, 0, 0, 0, 0}},
		{[]int{0, 2, 0, 0, 0}, 1, 1, []int{0, 1, 0, 0, 0}},
		{[]int{0, 2, 0, 0, 0}, 1, 2, []int{0, 2, 0, 0, 0}},
		{[]int{0, 2, 0, 0, 0}, 1, 0, []int{0, 0, 0, 0, 0}},
		{[]int{0, 2, 0, 0, 0}, 4, 1, []int{0, 2, 0, 0, 1}},
		{[]int{1, 2, 0, 2, 0}, 3, 1, []int{1, 2, 0, 1, 0}},
		{[]int{-1, -1, 0, -1, 0}, 1, 1, []int{-1, 1, 0, -1, 0}},
		{[]int{-1, -1, -1, -1, -1}, 3, 2, []int{-1, -1, -1, 2, -1}},
		{[]int{-1, -1, -1, -1, -1}, 2, 0, []int{-1, -1, 0, -1, -1}},
		{[]int{1, 2, 3, 2, 5}, 2, 0, []int{1, 2, 0, 2, 5}},
	}
	for _, x := range l {
		for _, c := range changes() {
			got, code := c.f(five(), x.states, x.door, x.state)
			if code != api.OK || !slices.Equal(got, x.want) {
				t.Errorf("%s of %d to %d, states %v: %v, %d, want %v", c.name, x.door, x.state, x.states, got, code, x.want)
			}
		}
	}
}

// P8.3: two doors of a double door are never ordered to be open together, and are seen as they stand.
func TestCommandDoubleDoor(t *testing.T) {
	for _, own := range []int{-1, 0, 1, 2} {
		for _, other := range []int{-1, 1, 2, 3} {
			states := []int{0, own, other, 0, 0}
			for state := 1; state <= 2; state++ {
				wantChange(t, changes()[0], five(), states, 1, state, api.ErrState)
				wantChange(t, changes()[1], five(), states, 1, state, api.OK)
			}
			wantChange(t, changes()[0], five(), states, 1, 0, api.OK)
			wantChange(t, changes()[1], five(), states, 1, 0, api.OK)
		}
	}
}

// P8.3: a state that is none of the Other door is not 0.
func TestCommandBesideOddState(t *testing.T) {
	for _, other := range otherStates(4) {
		for door, states := range [][]int{{0, 0, 0, 0, other}, {0, 0, other, 0, 0}, {0, other, 0, 0, 0}} {
			wantChange(t, changes()[0], five(), states, door, 1, api.ErrState)
			wantChange(t, changes()[1], five(), states, door, 1, api.OK)
			wantChange(t, changes()[0], five(), states, door, 0, api.OK)
		}
	}
}

// P8.3: the state that a door has does not count, whatever it is.
func TestChangeFromOddState(t *testing.T) {
	for door := range 5 {
		for _, own := range otherStates(7) {
			states := make([]int, 5)
			states[door] = own
			for state := range five()[door].Rests {
				for _, c := range changes() {
					wantChange(t, c, five(), states, door, state, api.OK)
				}
			}
		}
	}
}

// P8.3: only what is seen can be not known.
func TestSeenNotKnown(t *testing.T) {
	for door := range 5 {
		for _, states := range [][]int{{0, 0, 0, 0, 0}, {1, 2, 3, 2, 5}, {-1, -1, -1, -1, -1}} {
			wantChange(t, changes()[1], five(), states, door, -1, api.OK)
			wantChange(t, changes()[0], five(), states, door, -1, api.ErrRange)
		}
	}
}

// P8.3: the errors of the doors.
func TestChangeOddDoors(t *testing.T) {
	for _, x := range oddLists() {
		for _, c := range changes() {
			for _, states := range [][]int{make([]int, len(x.l)), nil, make([]int, len(x.l)+1)} {
				for _, door := range []int{0, -1, len(x.l)} {
					for _, state := range []int{0, 1, -1, 99} {
						wantChange(t, c, x.l, states, door, state, x.code)
					}
				}
			}
		}
	}
}

// P8.3: as many states as doors, which counts ahead of the door and its state.
func TestChangeLength(t *testing.T) {
	for _, l := range goodDoors() {
		for _, c := range changes() {
			for _, states := range []int{0, 1, len(l) - 1, len(l) + 1, len(l) + 300} {
				if states < 0 || states == len(l) {
					continue
				}
				for _, door := range []int{0, len(l) - 1, len(l), -1} {
					for _, state := range []int{0, 1, -1, 99} {
						wantChange(t, c, l, make([]int, states), door, state, api.ErrLength)
					}
				}
			}
		}
	}
}

// P8.3: a door that there is not, which counts ahead of its state.
func TestChangeOtherDoors(t *testing.T) {
	for _, l := range goodDoors() {
		for _, c := range changes() {
			for _, door := range []int{-1, -2, len(l), len(l) + 1, 16, 1 << 32, 1<<32 - 1, math.MinInt, math.MaxInt} {
				for _, state := range []int{0, 1, -1, 99} {
					wantChange(t, c, l, make([]int, len(l)), door, state, api.ErrDoor)
				}
			}
		}
	}
}

// P8.3: a state that the door does not have, which counts ahead of the Other door.
func TestChangeOtherStates(t *testing.T) {
	for _, states := range [][]int{{0, 0, 0, 0, 0}, {1, 1, 1, 1, 1}, {-1, -1, -1, -1, -1}} {
		for door, d := range five() {
			for _, state := range otherStates(len(d.Rests)) {
				for _, c := range changes() {
					wantChange(t, c, five(), states, door, state, api.ErrRange)
				}
			}
		}
	}
}

// P8.3: the number of the states is that of the door itself, not that of another one.
func TestChangeToLastState(t *testing.T) {
	for rests := 2; rests <= 6; rests++ {
		for i := range 3 {
			l := []api.Door{regulator(falling(4)...), regulator(falling(4)...), regulator(falling(4)...)}
			l[i] = regulator(falling(rests)...)
			for _, c := range changes() {
				wantChange(t, c, l, make([]int, 3), i, rests-1, api.OK)
				wantChange(t, c, l, make([]int, 3), i, rests, api.ErrRange)
				wantChange(t, c, l, make([]int, 3), (i+1)%3, 3, api.OK)
				wantChange(t, c, l, make([]int, 3), (i+1)%3, 4, api.ErrRange)
			}
		}
	}
}

// P8.3: the states that come back are new memory, also where nothing changes.
func TestChangeIsCopy(t *testing.T) {
	for _, c := range changes() {
		states := []int{0, 0, 0, 0, 0}
		got, code := c.f(five(), states, 3, 0)
		if code != api.OK {
			t.Fatalf("%s: %d", c.name, code)
		}
		got[0] = 9
		if states[0] != 0 {
			t.Errorf("%s: the states share memory", c.name)
		}
	}
}
