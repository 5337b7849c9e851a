package door

import (
	"math"
	"slices"
	"testing"

	"minecontrol/api"
)

// wantOpen checks what Open answers.
func wantOpen(t *testing.T, l []api.Door, states []int, want ...int) {
	t.Helper()
	if got := Open(l, states); !slices.Equal(got, want) {
		t.Errorf("%+v, states %v: %v, want %v", l, states, got, want)
	}
}

// P8.4: both doors of each double door that is open, ascending.
func TestOpen(t *testing.T) {
	wantOpen(t, nil, nil)
	wantOpen(t, []api.Door{}, []int{})
	wantOpen(t, five(), []int{0, 0, 0, 0, 0})
	wantOpen(t, five(), []int{1, 1, 1, 1, 1}, 0, 1, 2, 4)
	wantOpen(t, five(), []int{0, 1, 1, 0, 0}, 1, 2)
	wantOpen(t, five(), []int{1, 0, 0, 0, 5}, 0, 4)
	wantOpen(t, five(), []int{1, 0, 1, 2, 5}, 0, 4)
	wantOpen(t, five(), []int{1, 2, 0, 2, 0})
	wantOpen(t, five(), []int{0, 0, 3, 2, 5})
	wantOpen(t, five(), []int{0, 0, 0, 2, 0})
	wantOpen(t, pairs(16), slices.Repeat([]int{1}, 16), 0, 1, 2, 3, 4, 5, 6, 7, 8, 9, 10, 11, 12, 13, 14, 15)
	wantOpen(t, many(16), slices.Repeat([]int{1}, 16))
}

// P8.4: a door of which it is not known that it is shut is not in the state 0.
func TestOpenNotKnown(t *testing.T) {
	wantOpen(t, five(), []int{-1, -1, -1, -1, -1}, 0, 1, 2, 4)
	wantOpen(t, five(), []int{-1, -1, 0, -1, 0})
	wantOpen(t, five(), []int{0, -1, 1, 0, -1}, 1, 2)
	wantOpen(t, five(), []int{1, 0, -1, 0, -1}, 0, 4)
	for _, state := range otherStates(6) {
		wantOpen(t, five(), []int{state, 0, 0, state, 1}, 0, 4)
		wantOpen(t, five(), []int{1, 0, 0, state, state}, 0, 4)
		wantOpen(t, five(), []int{state, state, 0, state, 0})
	}
}

// P8.4: nothing if the doors have an error.
func TestOpenOfOddDoors(t *testing.T) {
	for _, x := range oddLists() {
		for _, state := range []int{-1, 0, 1, 2} {
			wantOpen(t, x.l, slices.Repeat([]int{state}, len(x.l)))
		}
	}
}

// P8.4: nothing if there is not a state for each door.
func TestOpenOfOtherLengths(t *testing.T) {
	for _, l := range goodDoors() {
		for _, states := range []int{0, 1, 2, len(l) - 1, len(l) + 1, len(l) + 300} {
			if states >= 0 && states != len(l) {
				wantOpen(t, l, slices.Repeat([]int{1}, states))
			}
		}
	}
	wantOpen(t, five(), nil)
}

// P8.4: for all states of five doors, those are open whose double door has no 0.
func TestOpenAllStates(t *testing.T) {
	for n := range power(4, 5) {
		states := make([]int, 5)
		for i := range states {
			states[i] = n%4 - 1
			n /= 4
		}
		var want []int
		for door, other := range map[int]int{0: 4, 1: 2, 2: 1, 4: 0} {
			if states[door]*states[other] != 0 {
				want = append(want, door)
			}
		}
		slices.Sort(want)
		wantOpen(t, five(), states, want...)
	}
}

// P8.4: doors at the end of a long list, with all states far out.
func TestOpenFarStates(t *testing.T) {
	l := append(many(14), half(15, 9, 5), half(14, 9, 5))
	for _, n := range []int{math.MinInt, -2, -1, 1, math.MaxInt} {
		wantOpen(t, l, slices.Repeat([]int{n}, 16), 14, 15)
	}
}

// key returns states as an array, which can be the key of a map.
func key(states []int) [5]int {
	return [5]int(states)
}

// ordered returns all states that orders lead to, from some states on.
func ordered(l []api.Door, from []int) map[[5]int]bool {
	found := map[[5]int]bool{key(from): true}
	left := [][]int{from}
	for len(left) > 0 {
		states := left[0]
		left = left[1:]
		for door := range l {
			for state := -1; state <= 6; state++ {
				next, code := Command(l, states, door, state)
				if code == api.OK && !found[key(next)] {
					found[key(next)] = true
					left = append(left, next)
				}
			}
		}
	}
	return found
}

// Chapter 8, consequences: no sequence of commands opens a double door that is not open, and all other states are reached.
func TestNeverOrderedOpen(t *testing.T) {
	l := five()
	for _, from := range [][]int{{0, 0, 0, 0, 0}, {0, 0, 0, 2, 0}, {1, 2, 0, 0, 0}, {0, 0, 3, 1, 5}, {-1, 0, -1, -1, 0}} {
		wantOpen(t, l, from)
		found := ordered(l, from)
		known := 0
		for states := range found {
			wantOpen(t, l, states[:])
			if !slices.Contains(states[:], -1) {
				known++
			}
		}
		// Of 2 and 6 states 7 pairs have a door that is shut, of 3 and 4 states 6; the single door has 3.
		if known != 7*6*3 {
			t.Errorf("from %v: %d states without one that is not known, want %d", from, known, 7*6*3)
		}
	}
}

// Chapter 8, consequences: from a double door that is seen open, commands shut it and do not open it again.
func TestOrderedFromOpen(t *testing.T) {
	l := five()
	seen, code := Seen(l, []int{0, 2, 0, 0, 0}, 2, 3)
	if code != api.OK {
		t.Fatalf("%d", code)
	}
	wantOpen(t, l, seen, 1, 2)
	for _, door := range []int{1, 2} {
		shut, code := Command(l, seen, door, 0)
		if code != api.OK {
			t.Fatalf("%d", code)
		}
		for states := range ordered(l, shut) {
			wantOpen(t, l, states[:])
		}
	}
}
