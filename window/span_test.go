package window

import (
	"math"
	"slices"
	"testing"

	"minecontrol/api"
)

// whole is the span of all numbers that an int holds.
var whole = api.Span{Low: math.MinInt, High: math.MaxInt}

// P6.2: what is in all spans.
func TestMeet(t *testing.T) {
	l := []struct {
		name  string
		spans []api.Span
		want  api.Span
		ok    bool
	}{
		{"no spans", nil, nothing, true},
		{"an empty list", []api.Span{}, nothing, true},
		{"one", []api.Span{{Low: 3, High: 5}}, api.Span{Low: 3, High: 5}, true},
		{"one number", []api.Span{{Low: 3, High: 3}}, api.Span{Low: 3, High: 3}, true},
		{"zeros", []api.Span{{}}, api.Span{}, true},
		{"one without numbers", []api.Span{{Low: 5, High: 4}}, nothing, false},
		{"nothing known", []api.Span{nothing}, nothing, true},
		{"nothing known twice", []api.Span{nothing, nothing}, nothing, true},
		{"nothing known of one", []api.Span{nothing, {Low: -3, High: 5}, nothing}, api.Span{Low: -3, High: 5}, true},
		{"beside one another", []api.Span{{Low: 40, High: 60}, {Low: 55, High: 70}}, api.Span{Low: 55, High: 60}, true},
		{"the other way round", []api.Span{{Low: 55, High: 70}, {Low: 40, High: 60}}, api.Span{Low: 55, High: 60}, true},
		{"one in the other", []api.Span{{Low: 40, High: 60}, {Low: 45, High: 50}}, api.Span{Low: 45, High: 50}, true},
		{"one around the other", []api.Span{{Low: 45, High: 50}, {Low: 40, High: 60}}, api.Span{Low: 45, High: 50}, true},
		{"one number in common", []api.Span{{Low: 40, High: 50}, {Low: 50, High: 60}}, api.Span{Low: 50, High: 50}, true},
		{"no number in common", []api.Span{{Low: 40, High: 50}, {Low: 51, High: 60}}, nothing, false},
		{"each two, but not all three", []api.Span{{Low: 0, High: 5}, {Low: 4, High: 9}, {Low: 8, High: 9}}, nothing, false},
		{"three", []api.Span{{Low: 0, High: 7}, {Low: -4, High: 9}, {Low: 5, High: 8}}, api.Span{Low: 5, High: 7}, true},
		{"one of them without numbers", []api.Span{{Low: 0, High: 9}, {Low: 5, High: 4}, {Low: 0, High: 9}}, nothing, false},
		{"the last one without numbers", []api.Span{nothing, {Low: 1, High: 0}}, nothing, false},
		{"beyond what is known", []api.Span{{Low: -1<<50 - 1, High: 1<<50 + 1}}, api.Span{Low: -1<<50 - 1, High: 1<<50 + 1}, true},
		{"all numbers", []api.Span{whole}, whole, true},
		{"all numbers and fewer", []api.Span{whole, nothing, whole}, nothing, true},
		{"the greatest number", []api.Span{whole, {Low: math.MaxInt, High: math.MaxInt}}, api.Span{Low: math.MaxInt, High: math.MaxInt}, true},
		{"the least and the greatest number", []api.Span{{Low: math.MinInt, High: math.MinInt}, {Low: math.MaxInt, High: math.MaxInt}}, nothing, false},
		{"all numbers the wrong way round", []api.Span{{Low: math.MaxInt, High: math.MinInt}}, nothing, false},
	}
	for _, x := range l {
		if got, ok := Meet(x.spans); got != x.want || ok != x.ok {
			t.Errorf("%s: %v and %t, want %v and %t", x.name, got, ok, x.want, x.ok)
		}
	}
}

// P6.2: what contains all spans.
func TestHull(t *testing.T) {
	l := []struct {
		name  string
		spans []api.Span
		want  api.Span
	}{
		{"no spans", nil, nothing},
		{"an empty list", []api.Span{}, nothing},
		{"one", []api.Span{{Low: 3, High: 5}}, api.Span{Low: 3, High: 5}},
		{"one number", []api.Span{{Low: 3, High: 3}}, api.Span{Low: 3, High: 3}},
		{"zeros", []api.Span{{}}, api.Span{}},
		{"one without numbers", []api.Span{{Low: 5, High: 4}}, nothing},
		{"two without numbers", []api.Span{{Low: 5, High: 4}, {Low: 9, High: -9}}, nothing},
		{"nothing known", []api.Span{nothing, {Low: 3, High: 5}}, nothing},
		{"beside one another", []api.Span{{Low: 40, High: 60}, {Low: 55, High: 70}}, api.Span{Low: 40, High: 70}},
		{"with numbers between them", []api.Span{{Low: 70, High: 80}, {Low: -5, High: -4}}, api.Span{Low: -5, High: 80}},
		{"one in the other", []api.Span{{Low: 40, High: 60}, {Low: 45, High: 50}}, api.Span{Low: 40, High: 60}},
		{"three", []api.Span{{Low: 3, High: 4}, {Low: 1, High: 1}, {Low: 2, High: 9}}, api.Span{Low: 1, High: 9}},
		{"the first one without numbers", []api.Span{{Low: 90, High: 1}, {Low: 3, High: 5}}, api.Span{Low: 3, High: 5}},
		{"the last one without numbers", []api.Span{{Low: 3, High: 5}, {Low: 90, High: 1}}, api.Span{Low: 3, High: 5}},
		{"all above 0", []api.Span{{Low: 6, High: 8}, {Low: 7, High: 9}}, api.Span{Low: 6, High: 9}},
		{"all below 0", []api.Span{{Low: -8, High: -6}, {Low: -9, High: -7}}, api.Span{Low: -9, High: -6}},
		{"beyond what is known", []api.Span{{Low: -1<<50 - 1, High: 0}, {Low: 0, High: 1<<50 + 1}}, api.Span{Low: -1<<50 - 1, High: 1<<50 + 1}},
		{"all numbers", []api.Span{whole, nothing}, whole},
		{"the least and the greatest number", []api.Span{{Low: math.MaxInt, High: math.MaxInt}, {Low: math.MinInt, High: math.MinInt}}, whole},
		{"the greatest number", []api.Span{{Low: math.MaxInt, High: math.MaxInt}}, api.Span{Low: math.MaxInt, High: math.MaxInt}},
		{"the least number", []api.Span{{Low: math.MinInt, High: math.MinInt}}, api.Span{Low: math.MinInt, High: math.MinInt}},
		{"all numbers the wrong way round", []api.Span{{Low: math.MaxInt, High: math.MinInt}}, nothing},
	}
	for _, x := range l {
		if got := Hull(x.spans); got != x.want {
			t.Errorf("%s: %v, want %v", x.name, got, x.want)
		}
	}
}

// smallSpans are all spans with ends from -3 to 3, those without numbers too.
func smallSpans() []api.Span {
	var l []api.Span
	for low := -3; low <= 3; low++ {
		for high := -3; high <= 3; high++ {
			l = append(l, api.Span{Low: low, High: high})
		}
	}
	return l
}

// numbersIn are the numbers from -5 to 5 for which a test holds.
func numbersIn(test func(n int) bool) []int {
	var l []int
	for n := -5; n <= 5; n++ {
		if test(n) {
			l = append(l, n)
		}
	}
	return l
}

// has reports whether a number is in a span.
func has(s api.Span, n int) bool { return s.Low <= n && n <= s.High }

// checkByNumbers holds Meet and Hull of spans against the numbers that are in them.
func checkByNumbers(t *testing.T, spans []api.Span) {
	t.Helper()
	wantMet, wantHull := nothing, nothing
	inAll := numbersIn(func(n int) bool {
		return !slices.ContainsFunc(spans, func(s api.Span) bool { return !has(s, n) })
	})
	if len(inAll) > 0 {
		wantMet = api.Span{Low: slices.Min(inAll), High: slices.Max(inAll)}
	}
	inAny := numbersIn(func(n int) bool {
		return slices.ContainsFunc(spans, func(s api.Span) bool { return has(s, n) })
	})
	if len(inAny) > 0 {
		wantHull = api.Span{Low: slices.Min(inAny), High: slices.Max(inAny)}
	}
	if got, ok := Meet(spans); got != wantMet || ok != (len(inAll) > 0) {
		t.Errorf("Meet of %v: %v and %t, want %v", spans, got, ok, wantMet)
	}
	if got := Hull(spans); got != wantHull {
		t.Errorf("Hull of %v: %v, want %v", spans, got, wantHull)
	}
}

// P6.2: of all lists of up to three small spans, by the numbers in them.
func TestMeetAndHullByNumbers(t *testing.T) {
	for _, a := range smallSpans() {
		checkByNumbers(t, []api.Span{a})
		for _, b := range smallSpans() {
			checkByNumbers(t, []api.Span{a, b})
			for _, c := range smallSpans()[10:30] {
				checkByNumbers(t, []api.Span{a, b, c})
			}
		}
	}
}

// R2: arguments stay as they are, also behind their ends.
func TestMeetAndHullLeaveArguments(t *testing.T) {
	before := []api.Span{{Low: 40, High: 60}, {Low: 55, High: 70}, {Low: 9, High: 1}, {Low: 90, High: 95}}
	spans := slices.Clone(before)
	for n := range spans {
		Meet(spans[:n])
		Hull(spans[:n])
	}
	if !slices.Equal(spans, before) {
		t.Errorf("the spans are %v", spans)
	}
}

// P6.3: whether a span is above a value.
func TestAbove(t *testing.T) {
	l := []struct {
		s           api.Span
		value, want int
	}{
		{api.Span{Low: 40, High: 50}, 39, api.True},
		{api.Span{Low: 40, High: 50}, 40, api.True},
		{api.Span{Low: 40, High: 50}, 41, api.Unknown},
		{api.Span{Low: 40, High: 50}, 50, api.Unknown},
		{api.Span{Low: 40, High: 50}, 51, api.False},
		{api.Span{Low: 40, High: 50}, math.MinInt, api.True},
		{api.Span{Low: 40, High: 50}, math.MaxInt, api.False},
		{api.Span{Low: 7, High: 7}, 7, api.True},
		{api.Span{Low: 7, High: 7}, 8, api.False},
		{api.Span{}, 0, api.True},
		{api.Span{}, 1, api.False},
		{nothing, 0, api.Unknown},
		{nothing, -1 << 50, api.True},
		{nothing, -1<<50 + 1, api.Unknown},
		{nothing, 1 << 50, api.Unknown},
		{nothing, 1<<50 + 1, api.False},
		{whole, math.MinInt, api.True},
		{whole, math.MinInt + 1, api.Unknown},
		{whole, math.MaxInt, api.Unknown},
		{api.Span{Low: math.MinInt, High: math.MinInt}, math.MaxInt, api.False},
		{api.Span{Low: math.MaxInt, High: math.MaxInt}, math.MinInt, api.True},
		{api.Span{Low: math.MaxInt, High: math.MinInt}, 0, api.Unknown},
		{api.Span{Low: 5, High: 4}, 0, api.Unknown},
		{api.Span{Low: 5, High: 4}, 5, api.Unknown},
		{api.Span{Low: 5, High: 4}, 9, api.Unknown},
		{api.Span{Low: 5, High: 4}, math.MinInt, api.Unknown},
		{api.Span{Low: 5, High: 4}, math.MaxInt, api.Unknown},
	}
	for _, x := range l {
		if got := Above(x.s, x.value); got != x.want {
			t.Errorf("%v above %d: %d, want %d", x.s, x.value, got, x.want)
		}
	}
}

// P6.3: of all small spans, by the numbers in them.
func TestAboveByNumbers(t *testing.T) {
	for _, s := range smallSpans() {
		for value := -5; value <= 5; value++ {
			all := numbersIn(func(n int) bool { return has(s, n) })
			least := numbersIn(func(n int) bool { return has(s, n) && n >= value })
			want := api.Unknown
			switch {
			case len(all) == 0:
			case len(least) == len(all):
				want = api.True
			case len(least) == 0:
				want = api.False
			}
			if got := Above(s, value); got != want {
				t.Errorf("%v above %d: %d, want %d", s, value, got, want)
			}
		}
	}
}
