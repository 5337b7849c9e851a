package airflow_test

import (
	"math"
	"testing"

	"minecontrol/airflow"
	"minecontrol/api"
)

// P13.2: spans on both sides of 0, and of a single number.
func TestDirection(t *testing.T) {
	for _, x := range []struct {
		f    api.Span
		want int
	}{
		{spanOf(1, 1), api.Forward},
		{spanOf(1, 9), api.Forward},
		{spanOf(40, 60), api.Forward},
		{spanOf(0, 9), api.Uncertain},
		{spanOf(0, 0), api.Uncertain},
		{spanOf(-1, 1), api.Uncertain},
		{spanOf(-9, 0), api.Uncertain},
		{spanOf(-1, -1), api.Backward},
		{spanOf(-9, -1), api.Backward},
		{nothing(), api.Uncertain},
		{spanOf(1, math.MaxInt), api.Forward},
		{spanOf(math.MaxInt, math.MaxInt), api.Forward},
		{spanOf(math.MinInt, -1), api.Backward},
		{spanOf(math.MinInt, math.MinInt), api.Backward},
		{spanOf(math.MinInt, math.MaxInt), api.Uncertain},
	} {
		if got := airflow.Direction(x.f); got != x.want {
			t.Errorf("%v: %d, want %d", x.f, got, x.want)
		}
	}
}

// P13.2: no direction is sure in a span without a number, on whichever side of 0 its ends are.
func TestDirectionOfEmptySpans(t *testing.T) {
	for _, f := range []api.Span{spanOf(9, 1), spanOf(2, 1), spanOf(1, 0), spanOf(1, -1), spanOf(0, -1), spanOf(-1, -9), spanOf(-1, -2), spanOf(math.MaxInt, math.MinInt), spanOf(math.MaxInt, 1), spanOf(-1, math.MinInt)} {
		if got := airflow.Direction(f); got != api.Uncertain {
			t.Errorf("%v: %d", f, got)
		}
	}
}

// P13.2: a direction is sure if all numbers of a span have it.
func TestDirectionOfAllSmallSpans(t *testing.T) {
	for low := -6; low <= 6; low++ {
		for high := low; high <= 6; high++ {
			forward, backward := true, true
			for n := low; n <= high; n++ {
				forward, backward = forward && n > 0, backward && n < 0
			}
			want := api.Uncertain
			if forward {
				want = api.Forward
			} else if backward {
				want = api.Backward
			}
			if got := airflow.Direction(spanOf(low, high)); got != want {
				t.Errorf("from %d to %d: %d, want %d", low, high, got, want)
			}
		}
	}
}

// faceOf returns a face.
func faceOf(road, need int) api.Face { return api.Face{Road: road, Need: need} }

// wantFed checks what Fed answers for one face, in the road 1 of three.
func wantFed(t *testing.T, f api.Span, need, want int) {
	t.Helper()
	flows := flowsOf(exactly(1000), f, exactly(-1000))
	if got := airflow.Fed(flows, []api.Face{faceOf(1, need)}); !same(got, []int{want}) {
		t.Errorf("%v with the need %d: %v, want %d", f, need, got, want)
	}
}

// P13.4: in one direction and in the other.
func TestFed(t *testing.T) {
	for _, x := range []struct {
		f          api.Span
		need, want int
	}{
		{spanOf(40, 60), 39, api.True},
		{spanOf(40, 60), 40, api.True},
		{spanOf(40, 60), 41, api.Unknown},
		{spanOf(40, 60), 60, api.Unknown},
		{spanOf(40, 60), 61, api.False},
		{spanOf(-30, 60), 1, api.Unknown},
		{spanOf(-30, 60), 31, api.Unknown},
		{spanOf(-30, 60), 60, api.Unknown},
		{spanOf(-30, 60), 61, api.False},
		{spanOf(-60, 30), 60, api.Unknown},
		{spanOf(-60, 30), 61, api.False},
		{spanOf(0, 0), 1, api.False},
		{spanOf(-60, -60), 60, api.True},
		{spanOf(-60, -60), 61, api.False},
		{nothing(), 1, api.Unknown},
		{nothing(), 1 << 50, api.Unknown},
		{nothing(), 1<<50 + 1, api.False},
	} {
		wantFed(t, x.f, x.need, x.want)
		wantFed(t, spanOf(-x.f.High, -x.f.Low), x.need, x.want)
	}
}

// P13.4: whoever needs nothing has it, whatever flows.
func TestFedWithoutNeed(t *testing.T) {
	for _, need := range []int{0, -1, -50, math.MinInt, math.MinInt + 1} {
		for _, f := range []api.Span{exactly(0), spanOf(-3, 3), spanOf(5, 9), spanOf(-9, -5), nothing(), spanOf(math.MinInt, math.MaxInt)} {
			wantFed(t, f, need, api.True)
		}
	}
}

// P13.4: the greatest numbers.
func TestFedAtLimits(t *testing.T) {
	most := math.MaxInt
	wantFed(t, exactly(most), most, api.True)
	wantFed(t, exactly(most-1), most, api.False)
	wantFed(t, spanOf(most-1, most), most, api.Unknown)
	wantFed(t, exactly(-most), most, api.True)
	wantFed(t, exactly(-most+1), most, api.False)
	wantFed(t, exactly(math.MinInt), most, api.True)
	wantFed(t, spanOf(-most, -most+1), most, api.Unknown)
	wantFed(t, spanOf(math.MinInt, most), most, api.Unknown)
	wantFed(t, spanOf(math.MinInt, most), 1, api.Unknown)
	wantFed(t, spanOf(math.MinInt, -1), 1, api.True)
}

// P13.4: nothing is known of roads that there are not, and of spans without a number, also if nothing is needed.
func TestFedUnknown(t *testing.T) {
	for _, need := range []int{math.MinInt, -7, 0, 1, 7, 2000, math.MaxInt} {
		for _, f := range []api.Span{spanOf(9, 8), spanOf(1, -1), spanOf(-8, -9), spanOf(9, -9), spanOf(math.MaxInt, math.MinInt)} {
			wantFed(t, f, need, api.Unknown)
		}
		for _, road := range []int{-1, 3, 4, 1 << 32, math.MaxInt, math.MinInt} {
			got := airflow.Fed(flowsOf(exactly(1000), exactly(1000), exactly(1000)), []api.Face{faceOf(road, need)})
			if !same(got, []int{api.Unknown}) {
				t.Errorf("the road %d with the need %d: %v", road, need, got)
			}
		}
		if got := airflow.Fed(nil, []api.Face{faceOf(0, need)}); !same(got, []int{api.Unknown}) {
			t.Errorf("without roads, with the need %d: %v", need, got)
		}
	}
}

// P13.4: a face is surely fed if all numbers of a span are enough, and surely not if none is.
func TestFedOfAllSmallSpans(t *testing.T) {
	for low := -5; low <= 5; low++ {
		for high := low; high <= 5; high++ {
			for need := -2; need <= 7; need++ {
				all, some := true, false
				for n := low; n <= high; n++ {
					enough := max(n, -n) >= need
					all, some = all && enough, some || enough
				}
				want := api.Unknown
				if all {
					want = api.True
				} else if !some {
					want = api.False
				}
				wantFed(t, spanOf(low, high), need, want)
			}
		}
	}
}

// P13.4: an answer for each face, in the order of the faces; arguments stay, and what lies behind their ends does not count.
func TestFedOfFaces(t *testing.T) {
	flows := behind(flowsOf(spanOf(40, 60), spanOf(-30, -20), spanOf(-5, 5)), exactly(1000))
	faces := behind([]api.Face{faceOf(2, 6), faceOf(0, 50), faceOf(3, 0), faceOf(0, 10), faceOf(1, 20), faceOf(0, 10), faceOf(2, 3)}, faceOf(0, 1))
	flowsBefore, facesBefore := full(flows), full(faces)
	want := []int{api.False, api.Unknown, api.Unknown, api.True, api.True, api.True, api.Unknown}
	if got := airflow.Fed(flows, faces); !same(got, want) {
		t.Errorf("%v, want %v", got, want)
	}
	if !same(full(flows), flowsBefore) || !same(full(faces), facesBefore) {
		t.Error("arguments have changed")
	}
	if got := airflow.Fed(flows, nil); len(got) != 0 {
		t.Errorf("no faces: %v", got)
	}
}
