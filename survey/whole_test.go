package survey

import (
	"math"
	"slices"
	"strings"
	"testing"

	"minecontrol/api"
)

// ring has a place of the surface, two places below it, and roads between them.
func ring() api.Mine {
	road := api.Road{Length: 300, Area: 12, Walk: true, Rest: api.Span{Low: 2, High: 5}, Lift: api.Span{Low: -7, High: 7}}
	m := api.Mine{Places: []api.Place{{Height: 40, Surface: true}, {Height: -300}, {Height: -320}}, Roads: []api.Road{road, road, road}}
	m.Roads[0].To = 1
	m.Roads[1].From, m.Roads[1].To = 1, 2
	m.Roads[2].From = 2
	return m
}

// sameMine reports whether two mines are equal; nil and empty lists are.
func sameMine(a, b api.Mine) bool {
	return slices.Equal(a.Places, b.Places) && slices.Equal(a.Roads, b.Roads)
}

// wantRead checks what Read answers.
func wantRead(t *testing.T, name string, m api.Mine, s string, want api.Mine, number int, code api.Errno) {
	t.Helper()
	got, n, e := Read(m, s)
	if !sameMine(got, want) || n != number || e != code {
		t.Errorf("Read, %s: %v, %d and %d, want %v, %d and %d", name, got, n, e, want, number, code)
	}
}

// P2.3: the edits of a file are applied in their order.
func TestRead(t *testing.T) {
	wantRead(t, "no edits", ring(), fileOf(), ring(), 0, api.OK)
	wantRead(t, "no edits and nothing", api.Mine{}, fileOf(), api.Mine{}, 0, api.OK)

	changed := ring()
	changed.Places = append(changed.Places, api.Place{Height: -400}, api.Place{Surface: true})
	changed.Roads = append(changed.Roads, api.Road{From: 3, To: 4, Length: 9, Area: 8, Rest: api.Span{Low: 1, High: 2}, Lift: api.Span{Low: -3, High: -2}})
	changed.Roads[1].Closed = true
	changed.Roads[3].Rest = api.Span{Low: 6, High: 7}
	changed.Roads[0].Lift = api.Span{Low: -1}
	wantRead(t, "all kinds", ring(), fileOf(
		"place -400 below", "place 0 surface", "road 3 4 9 8 machine 1 2 -3 -2", "close 1", "rest 3 6 7", "lift 0 -1 0", "close 3", "open 3",
	), changed, 8, api.OK)

	small := api.Mine{Places: []api.Place{{Height: 1, Surface: true}, {}}, Roads: []api.Road{{To: 1, Length: 1, Area: 1, Walk: true, Rest: api.Span{Low: 1, High: 1}}}}
	wantRead(t, "a mine out of nothing", api.Mine{}, fileOf("place 1 surface", "place 0 below", "road 0 1 1 1 walk 1 1 0 0"), small, 3, api.OK)
}

// P2.3: with an error of the file the mine is as it was, even if some lines could be applied.
func TestReadFileErrors(t *testing.T) {
	odd := api.Mine{Places: []api.Place{{Height: math.MaxInt}}, Roads: []api.Road{{From: -1, To: 77}}}
	for _, m := range []api.Mine{ring(), {}, odd} {
		wantRead(t, "nothing", m, "", m, 1, api.ErrForm)
		wantRead(t, "an odd line", m, fileOf("close 0", "close x"), m, 2, api.ErrForm)
		wantRead(t, "no sum", m, "close 0\nclose 1\n", m, 3, api.ErrForm)
		wantRead(t, "a wrong sum", m, "close 0\nsum 1\n", m, 2, api.ErrSum)
		wantRead(t, "an edit that is not possible, and a wrong sum", m, "close 99\nsum 1\n", m, 2, api.ErrSum)
		wantRead(t, "bytes behind the sum", m, fileOf("close 0")+"\n", m, 3, api.ErrForm)
		wantRead(t, "too many bytes", m, strings.Repeat("close 0\n", 9000), m, 0, api.ErrLimit)
		wantRead(t, "too many lines", m, strings.Repeat("close 0\n", 1001), m, 1001, api.ErrLimit)
	}
}

// P2.3: with an error of an edit the mine ahead of it, and how many edits were applied.
func TestReadEditErrors(t *testing.T) {
	closed := ring()
	closed.Roads[1].Closed = true
	wantRead(t, "closed twice", ring(), fileOf("close 1", "close 1", "close 0"), closed, 1, api.ErrState)
	wantRead(t, "opened when open", ring(), fileOf("open 1", "close 1"), ring(), 0, api.ErrState)
	wantRead(t, "no road", ring(), fileOf("close 1", "lift 3 0 0"), closed, 1, api.ErrRoad)
	wantRead(t, "no road, below 0", ring(), fileOf("close 1", "open -1"), closed, 1, api.ErrRoad)
	wantRead(t, "too high", ring(), fileOf("close 1", "place 10001 below"), closed, 1, api.ErrRange)
	wantRead(t, "no resistance", ring(), fileOf("close 1", "rest 0 0 1"), closed, 1, api.ErrRange)
	wantRead(t, "greatest number", ring(), fileOf("close 1", "lift 0 0 999999999999999999"), closed, 1, api.ErrRange)
	wantRead(t, "a road from nowhere", ring(), fileOf("close 1", "road 3 0 9 9 walk 1 1 0 0"), closed, 1, api.ErrRoad)
	full := make([]string, api.MaxPlaces-2)
	for i := range full {
		full[i] = "place 5 below"
	}
	more := ring()
	for range api.MaxPlaces - 3 {
		more.Places = append(more.Places, api.Place{Height: 5})
	}
	wantRead(t, "a place too many", ring(), fileOf(full...), more, api.MaxPlaces-3, api.ErrLimit)
	odd := api.Mine{Roads: []api.Road{{}}}
	wantRead(t, "a mine that is not valid", odd, fileOf("place 0 below"), odd, 0, api.ErrRoad)
	swings := slices.Repeat([]string{"close 0", "open 0"}, api.MaxLines/2)
	wantRead(t, "many edits", ring(), fileOf(swings...), ring(), api.MaxLines, api.OK)
}

// R2: the mine stays as it is, the spare capacity of its lists too, and the result has memory of its own.
func TestReadMemory(t *testing.T) {
	for _, file := range []string{fileOf("place 5 below", "close 0", "close 2"), fileOf(), "", fileOf("open 0"), fileOf("close 0", "x")} {
		m, spare := ring(), ring()
		m.Places = append(m.Places, api.Place{Height: 77})[:3]
		m.Roads = append(m.Roads, api.Road{From: 78})[:3]
		spare.Places = append(spare.Places, api.Place{Height: 77})
		spare.Roads = append(spare.Roads, api.Road{From: 78})
		got, _, _ := Read(m, file)
		for i := range got.Places {
			got.Places[i].Height = 99
		}
		for i := range got.Roads {
			got.Roads[i].Length = 99
		}
		whole := api.Mine{Places: m.Places[:4], Roads: m.Roads[:4]}
		if !sameMine(whole, spare) {
			t.Errorf("Read of %q changes the mine that it is given, or shares its memory", file)
		}
	}
}

// R2: the edits stay as they are, the spare capacity of their list too.
func TestPrintLeavesArguments(t *testing.T) {
	var l []api.Edit
	for _, x := range examples() {
		l = append(l, x.edit)
	}
	l = append(l, api.Edit{Kind: 99})
	before := slices.Clone(l)
	Print(l)
	Print(l[:len(l)-1])
	if !slices.Equal(l, before) {
		t.Errorf("Print changes the edits")
	}
}

// made returns a list of plain edits that depends on a number only.
func made(n uint64) []api.Edit {
	next := func(below int) int {
		n = n*6364136223846793005 + 1442695040888963407
		return int(n >> 33 % uint64(below))
	}
	var l []api.Edit
	for range next(9) {
		e := api.Edit{Kind: 1 + next(6)}
		for _, i := range given(e.Kind) {
			value := []int{0, 1, -1, next(10), next(1000), -next(100000), most, -most, next(1 << 30)}
			*numbersOf(&e)[i] = value[next(len(value))]
		}
		e.Place.Surface = e.Kind == api.EditPlace && next(2) == 0
		e.New.Walk = e.Kind == api.EditRoad && next(2) == 0
		l = append(l, e)
	}
	return l
}

// Consequence: what Print returns is read as the same edits.
func TestThereAndBack(t *testing.T) {
	for n := range uint64(3000) {
		l := made(n)
		file, code := Print(l)
		if code != api.OK {
			t.Fatalf("Print of %v: %d", l, code)
		}
		wantParse(t, "made edits", file, l, 0, api.OK)
	}
}

// checkOnly fails if a file is read although Print does not write it like that.
func checkOnly(t *testing.T, s string) bool {
	t.Helper()
	l, n, code := Parse(s)
	if code != api.OK {
		if l != nil || n < 0 || n > strings.Count(s, "\n")+1 {
			t.Errorf("Parse of %q: %v and the line %d, with the error %d", s, l, n, code)
		}
		return false
	}
	if again, code := Print(l); code != api.OK || again != s {
		t.Errorf("Parse of %q is read, and printed as %q (%d)", s, again, code)
	}
	return true
}

// Consequence: a byte that is changed, left out or put in is noticed, and there is one file for each list of edits.
func TestDamage(t *testing.T) {
	for n := range uint64(12) {
		file, _ := Print(made(n))
		for i := range len(file) {
			for b := range 256 {
				if damaged := file[:i] + string([]byte{byte(b)}) + file[i+1:]; damaged != file && checkOnly(t, damaged) {
					t.Errorf("the byte %d of %q can be %d", i, file, b)
				}
			}
			checkOnly(t, file[:i])
			checkOnly(t, file[:i]+file[i+1:])
			checkOnly(t, file[:i]+" "+file[i:])
			checkOnly(t, file[:i]+"0"+file[i:])
		}
	}
}
