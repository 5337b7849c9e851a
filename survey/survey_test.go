package survey

import (
	"math"
	"slices"
	"strconv"
	"strings"
	"testing"

	"minecontrol/api"
)

// most is the greatest number that has 18 digits.
const most = 1000000000000000000 - 1

// fileOf returns lines with a sum line behind them that has the right value.
func fileOf(lines ...string) string {
	text := ""
	for _, line := range lines {
		text += line + "\n"
	}
	return text + "sum " + strconv.Itoa(sumByDefinition(text)) + "\n"
}

// sumByDefinition computes the check value from the last byte back, other than the program does.
func sumByDefinition(s string) int {
	sum, power := 0, 1
	for i := len(s) - 1; i >= 0; i-- {
		sum += int(s[i]) * power % 65521
		power = power * 31 % 65521
	}
	return (sum + power) % 65521
}

// example is an edit with its line.
type example struct {
	line string
	edit api.Edit
}

// examples are edits of all kinds, with usual and with extreme numbers.
func examples() []example {
	walk := api.Road{From: 0, To: 1, Length: 400, Area: 12, Walk: true, Rest: api.Span{Low: 2, High: 3}, Lift: api.Span{Low: -7, High: 8}}
	machine := walk
	machine.Walk = false
	far := api.Road{From: -most, To: most, Length: -1, Area: most - 1, Walk: true, Rest: api.Span{Low: most, High: -most}, Lift: api.Span{Low: 10, High: -10}}
	return []example{
		{"place 40 surface", api.Edit{Kind: api.EditPlace, Place: api.Place{Height: 40, Surface: true}}},
		{"place 40 below", api.Edit{Kind: api.EditPlace, Place: api.Place{Height: 40}}},
		{"place -300 below", api.Edit{Kind: api.EditPlace, Place: api.Place{Height: -300}}},
		{"place 0 below", api.Edit{Kind: api.EditPlace}},
		{"place 0 surface", api.Edit{Kind: api.EditPlace, Place: api.Place{Surface: true}}},
		{"place 999999999999999999 surface", api.Edit{Kind: api.EditPlace, Place: api.Place{Height: most, Surface: true}}},
		{"place -999999999999999999 below", api.Edit{Kind: api.EditPlace, Place: api.Place{Height: -most}}},
		{"road 0 1 400 12 walk 2 3 -7 8", api.Edit{Kind: api.EditRoad, New: walk}},
		{"road 0 1 400 12 machine 2 3 -7 8", api.Edit{Kind: api.EditRoad, New: machine}},
		{"road 0 0 0 0 machine 0 0 0 0", api.Edit{Kind: api.EditRoad}},
		{"road -999999999999999999 999999999999999999 -1 999999999999999998 walk 999999999999999999 -999999999999999999 10 -10", api.Edit{Kind: api.EditRoad, New: far}},
		{"close 0", api.Edit{Kind: api.EditClose}},
		{"close 127", api.Edit{Kind: api.EditClose, Road: 127}},
		{"close -1", api.Edit{Kind: api.EditClose, Road: -1}},
		{"open 0", api.Edit{Kind: api.EditOpen}},
		{"open 100000000000000000", api.Edit{Kind: api.EditOpen, Road: 100000000000000000}},
		{"rest 3 4 5", api.Edit{Kind: api.EditRest, Road: 3, Span: api.Span{Low: 4, High: 5}}},
		{"rest 0 0 0", api.Edit{Kind: api.EditRest}},
		{"rest -1 -999999999999999999 999999999999999999", api.Edit{Kind: api.EditRest, Road: -1, Span: api.Span{Low: -most, High: most}}},
		{"lift 3 -5 -4", api.Edit{Kind: api.EditLift, Road: 3, Span: api.Span{Low: -5, High: -4}}},
		{"lift 0 0 0", api.Edit{Kind: api.EditLift}},
		{"lift 999999999999999999 9 8", api.Edit{Kind: api.EditLift, Road: most, Span: api.Span{Low: 9, High: 8}}},
	}
}

// numbersOf returns all numbers of an edit that a line can give.
func numbersOf(e *api.Edit) []*int {
	r := &e.New
	return []*int{
		&e.Place.Height, &r.From, &r.To, &r.Length, &r.Area, &r.Rest.Low, &r.Rest.High, &r.Lift.Low, &r.Lift.High,
		&e.Road, &e.Span.Low, &e.Span.High,
	}
}

// given says which of numbersOf the line of a kind gives.
func given(kind int) []int {
	switch kind {
	case api.EditPlace:
		return []int{0}
	case api.EditRoad:
		return []int{1, 2, 3, 4, 5, 6, 7, 8}
	case api.EditClose, api.EditOpen:
		return []int{9}
	case api.EditRest, api.EditLift:
		return []int{9, 10, 11}
	}
	return nil
}

// kinds are the kinds of edits.
func kinds() []int {
	return []int{api.EditPlace, api.EditRoad, api.EditClose, api.EditOpen, api.EditRest, api.EditLift}
}

// wantPrint checks what Print answers.
func wantPrint(t *testing.T, name string, l []api.Edit, want string, code api.Errno) {
	t.Helper()
	if got, e := Print(l); got != want || e != code {
		t.Errorf("Print, %s: %.300q and %d, want %.300q and %d", name, got, e, want, code)
	}
}

// wantParse checks what Parse answers.
func wantParse(t *testing.T, name, s string, want []api.Edit, number int, code api.Errno) {
	t.Helper()
	got, n, e := Parse(s)
	if !slices.Equal(got, want) || n != number || e != code {
		t.Errorf("Parse, %s: %d edits %.300q, %d and %d, want %d, %d and %d", name, len(got), s, n, e, len(want), number, code)
	}
}

// P2.1: the check value.
func TestSum(t *testing.T) {
	l := []struct {
		s    string
		want int
	}{
		{"", 1},
		{"\x00", 31},
		{"a", 128},
		{"ab", 4066},
		{"ba", 4096},
		{"\n", 41},
		{"\xff", 286},
		{"\x80", 159},
		{"é", (31+0xc3)*31 + 0xa9},
		{"sum 1\n", sumByDefinition("sum 1\n")},
	}
	for _, x := range l {
		if got := Sum(x.s); got != x.want {
			t.Errorf("Sum of %q: %d, want %d", x.s, got, x.want)
		}
	}
}

// P2.1: the remainder is that of division by 65521, after each byte, however long the text is.
func TestSumRemainder(t *testing.T) {
	least, greatest := math.MaxInt, 0
	text := ""
	for i := range 400000 {
		s := strconv.Itoa(i)
		got := Sum(s)
		if got != sumByDefinition(s) {
			t.Fatalf("Sum of %q: %d, want %d", s, got, sumByDefinition(s))
		}
		least, greatest = min(least, got), max(greatest, got)
	}
	if least != 0 || greatest != 65520 {
		t.Errorf("Sum is from %d to %d in these texts, want 0 to 65520", least, greatest)
	}
	for _, s := range []string{"\x00", "\xff", "0123456789", "\n", "é \x80"} {
		text = strings.Repeat(s, 200000)
		if got := Sum(text); got != sumByDefinition(text) {
			t.Errorf("Sum of many %q: %d, want %d", s, got, sumByDefinition(text))
		}
	}
}

// P2.1: a line for each edit, and the sum line.
func TestPrint(t *testing.T) {
	wantPrint(t, "nothing", nil, "sum 1\n", api.OK)
	wantPrint(t, "an empty list", []api.Edit{}, "sum 1\n", api.OK)
	var all []api.Edit
	var lines []string
	for _, x := range examples() {
		wantPrint(t, x.line, []api.Edit{x.edit}, fileOf(x.line), api.OK)
		all = append(all, x.edit)
		lines = append(lines, x.line)
	}
	wantPrint(t, "all", all, fileOf(lines...), api.OK)
	slices.Reverse(all)
	slices.Reverse(lines)
	wantPrint(t, "all in the other order", all, fileOf(lines...), api.OK)
	wantPrint(t, "an edit twice", []api.Edit{all[0], all[0]}, fileOf(lines[0], lines[0]), api.OK)
}

// P2.1: a whole file, byte for byte.
func TestPrintBytes(t *testing.T) {
	text := "place 0 surface\nplace -90 below\nroad 1 0 90 9 walk 1 2 -3 4\nclose 0\nrest 0 5 6\nlift 0 -1 0\nopen 0\n"
	l := []api.Edit{
		{Kind: api.EditPlace, Place: api.Place{Surface: true}},
		{Kind: api.EditPlace, Place: api.Place{Height: -90}},
		{Kind: api.EditRoad, New: api.Road{From: 1, Length: 90, Area: 9, Walk: true, Rest: api.Span{Low: 1, High: 2}, Lift: api.Span{Low: -3, High: 4}}},
		{Kind: api.EditClose},
		{Kind: api.EditRest, Span: api.Span{Low: 5, High: 6}},
		{Kind: api.EditLift, Span: api.Span{Low: -1}},
		{Kind: api.EditOpen},
	}
	file := text + "sum " + strconv.Itoa(sumByDefinition(text)) + "\n"
	wantPrint(t, "bytes", l, file, api.OK)
	wantParse(t, "bytes", file, l, 0, api.OK)
}

// P2.1: an edit that is not plain.
func TestPrintNotPlain(t *testing.T) {
	for _, kind := range []int{0, -1, 7, 8, math.MaxInt, math.MinInt} {
		wantPrint(t, "no kind", []api.Edit{{Kind: kind}}, "", api.ErrForm)
	}
	for _, kind := range kinds() {
		fields := given(kind)
		for i := range 12 {
			e := api.Edit{Kind: kind}
			for _, n := range []int{1, -1, most, -most} {
				*numbersOf(&e)[i] = n
				_, code := Print([]api.Edit{e})
				if plainly := slices.Contains(fields, i); plainly != (code == api.OK) || !plainly && code != api.ErrForm {
					t.Errorf("kind %d, number %d is %d: %d", kind, i, n, code)
				}
			}
			for _, n := range []int{most + 1, -most - 1, math.MaxInt, math.MinInt} {
				*numbersOf(&e)[i] = n
				wantPrint(t, "a number with more than 18 digits", []api.Edit{e}, "", api.ErrForm)
			}
		}
	}
}

// P2.1: fields of yes and no that a line does not give are not set in a plain edit.
func TestPrintNotPlainMarks(t *testing.T) {
	for _, kind := range kinds() {
		surface := api.Edit{Kind: kind, Place: api.Place{Surface: true}}
		walk := api.Edit{Kind: kind, New: api.Road{Walk: true}}
		closed := api.Edit{Kind: kind, New: api.Road{Closed: true}}
		both := api.Edit{Kind: kind, New: api.Road{Walk: true, Closed: true}}
		if _, code := Print([]api.Edit{surface}); (code == api.OK) != (kind == api.EditPlace) {
			t.Errorf("kind %d with a place of the surface: %d", kind, code)
		}
		if _, code := Print([]api.Edit{walk}); (code == api.OK) != (kind == api.EditRoad) {
			t.Errorf("kind %d with a road to walk: %d", kind, code)
		}
		wantPrint(t, "a closed road", []api.Edit{closed}, "", api.ErrForm)
		wantPrint(t, "a closed road to walk", []api.Edit{both}, "", api.ErrForm)
	}
}

// sized returns edits whose file has so many bytes, and the file; for sizes near api.MaxText.
func sized(t *testing.T, size int) ([]api.Edit, string) {
	t.Helper()
	// The sum line has 10 bytes if its value has 5 digits: the first edit is changed until it does.
	for first := range 10 {
		l := []api.Edit{{Kind: api.EditOpen, Road: first}}
		lines := []string{"open " + strconv.Itoa(first)}
		for left := size - len("open 0\n") - len("sum 12345\n"); left > 0; {
			e, line := filler(left)
			l = append(l, e)
			lines = append(lines, line)
			left -= len(line) + 1
		}
		if file := fileOf(lines...); len(file) == size {
			return l, file
		}
	}
	t.Fatalf("no file of %d bytes was made", size)
	return nil, ""
}

// filler returns an edit and its line, which has at most so many bytes with its end, and leaves none or enough for another one.
func filler(left int) (api.Edit, string) {
	if left > 300 {
		r := api.Road{From: most, To: most, Length: most, Area: most, Rest: api.Span{Low: most, High: most}, Lift: api.Span{Low: most, High: most}}
		word := " " + strconv.Itoa(most)
		return api.Edit{Kind: api.EditRoad, New: r}, "road" + strings.Repeat(word, 4) + " machine" + strings.Repeat(word, 4)
	}
	digits := min(left-len("open \n"), 18)
	if left > len("open \n")+18 {
		digits = 9
	}
	road, _ := strconv.Atoi(strings.Repeat("1", digits))
	return api.Edit{Kind: api.EditOpen, Road: road}, "open " + strconv.Itoa(road)
}

// P2.1: how many edits and bytes a file can have.
func TestPrintLimits(t *testing.T) {
	lines := make([]string, api.MaxLines)
	for i := range lines {
		lines[i] = "close 7"
	}
	full := slices.Repeat([]api.Edit{{Kind: api.EditClose, Road: 7}}, api.MaxLines)
	wantPrint(t, "as many edits as possible", full, fileOf(lines...), api.OK)
	wantPrint(t, "an edit too many", append(slices.Clone(full), full[0]), "", api.ErrLimit)
	wantPrint(t, "an edit too many, and none of a kind", make([]api.Edit, api.MaxLines+1), "", api.ErrLimit)
	wantPrint(t, "as many edits as possible, the last of no kind", append(slices.Clone(full[1:]), api.Edit{}), "", api.ErrForm)

	for _, size := range []int{api.MaxText - 1, api.MaxText} {
		l, file := sized(t, size)
		wantPrint(t, "as many bytes as possible", l, file, api.OK)
		wantParse(t, "as many bytes as possible", file, l, 0, api.OK)
	}
	for _, size := range []int{api.MaxText + 1, api.MaxText + 7, api.MaxText + 20} {
		l, file := sized(t, size)
		wantPrint(t, "too many bytes", l, "", api.ErrLimit)
		wantParse(t, "too many bytes", file, nil, 0, api.ErrLimit)
		wantPrint(t, "too many bytes, and an edit of no kind", append(slices.Clone(l), api.Edit{}), "", api.ErrForm)
	}
}

// P2.2: the edits of a file.
func TestParse(t *testing.T) {
	wantParse(t, "nothing", "sum 1\n", nil, 0, api.OK)
	var all []api.Edit
	var lines []string
	for _, x := range examples() {
		wantParse(t, x.line, fileOf(x.line), []api.Edit{x.edit}, 0, api.OK)
		all = append(all, x.edit)
		lines = append(lines, x.line)
	}
	wantParse(t, "all", fileOf(lines...), all, 0, api.OK)
}

// badLines are lines that are none of those of the table.
func badLines() []string {
	l := []string{
		"", " ", "  ", "\x00", "\r", "x", "5", "-", "place", "road", "close", "open", "rest", "lift", "sum",
		"place ", "place 1", "place 1 ", "place 1 Surface", "place 1 SURFACE", "place 1 surfaces", "place 1 surfac",
		"place 1 bellow", "place 1 walk", "place 1 0", "place surface", "place surface 1", "place  1 surface",
		"place 1  surface", " place 1 surface", "place 1 surface ", "place 1 surface 2", "place 1 surface below",
		"place 1 surface\r", "place\t1 surface", "place 1\tsurface", "Place 1 surface", "places 1 surface", "place 1 2 surface",
		"place x surface", "place 1x surface", "place x1 surface", "place  surface", "place 1,5 surface",
		"road 0 1 400 12 2 3 -7 8", "road 0 1 400 walk 12 2 3 -7 8", "road 0 1 400 12 5 2 3 -7 8", "road 0 1 400 12 walk 2 3 -7",
		"road 0 1 400 12 walk 2 3 -7 8 9", "road 0 1 400 12 walk", "road 0 1 400 12 walk 2 3 -7 ", "road 0 1 400 12 walk 2 3 -7 8 ",
		"road 0 1 400 12 Walk 2 3 -7 8", "road 0 1 400 12 surface 2 3 -7 8", "road 0 1 400 12 machine 2 3 -7 walk",
		"road 0 1 400 12  2 3 -7 8", "road 0 1 400 12 walk machine 2 3 -7 8", "road 0 1 400 12 5 walk 2 3 -7 8",
		"road 0 1 400 12 walk 2 3 -7 8 closed", "road walk 0 1 400 12 2 3 -7 8",
		"close ", "close x", "close 1 2", "close 1 ", "close  1", "close1", "close 1.", "closes 1", "Close 1", "shut 1", "close walk",
		"open ", "open x", "open 1 2", "open 1 ", "open  1", "open\t1", "open 1 2 3",
		"rest 1", "rest 1 2", "rest 1 2 3 4", "rest 1 2 ", "rest 1 2 3 ", "rest 1  2", "rest 1 2 x", "rest x 2 3", "rest 1 x 3",
		"lift 1", "lift 1 2", "lift 1 2 3 4", "lift 1 2 ", "lift 1 2 3 ", "lift 1  2", "lift 1 2 x", "lift x 2 3", "lift 1 x 3",
		"sum ", "sum x", "sum 1 ", "sum  1", "sum 1 2", " sum 1", "Sum 1", "sum1", "sums 1", "# sum 1",
	}
	for _, x := range examples() {
		l = append(l, x.line+" ", " "+x.line, x.line+"\r", x.line+" 0", "+"+x.line, strings.Replace(x.line, " ", "  ", 1), strings.ToUpper(x.line))
	}
	return l
}

// badNumbers are words that are no numbers of a file.
func badNumbers() []string {
	return []string{
		"", "+1", "+0", "-0", "00", "01", "-01", "007", "-", "--1", "1-", "1 ", "0x1", "1e3", "1_0", "1.0", "½", "١", "1\x00", "\x001",
		"1000000000000000000", "-1000000000000000000", "1000000000000000001", "9223372036854775807", "-9223372036854775808",
		"9223372036854775808", "18446744073709551617", "0000000000000000001", "340282366920938463463374607431768211457", "x", "O", "1\r",
	}
}

// P2.2: lines that are none of those of the table.
func TestParseForm(t *testing.T) {
	for _, line := range badLines() {
		wantParse(t, "the first line", fileOf(line), nil, 1, api.ErrForm)
		wantParse(t, "the second line", fileOf("close 1", line, "open 1"), nil, 2, api.ErrForm)
	}
	for _, word := range badNumbers() {
		for _, x := range examples() {
			words := strings.Split(x.line, " ")
			for i := 1; i < len(words); i++ {
				l := slices.Clone(words)
				l[i] = word
				wantParse(t, "no number", fileOf("place 0 below", strings.Join(l, " ")), nil, 2, api.ErrForm)
			}
		}
		wantParse(t, "no sum", "sum "+word+"\n", nil, 1, api.ErrForm)
		wantParse(t, "no sum, and then one", fileOf("open 5", "sum "+word), nil, 2, api.ErrForm)
	}
}

// P2.2: lines without an end, and files without a sum.
func TestParseEnds(t *testing.T) {
	wantParse(t, "nothing", "", nil, 1, api.ErrForm)
	wantParse(t, "an end", "\n", nil, 1, api.ErrForm)
	wantParse(t, "a sum line without its end", "sum 1", nil, 1, api.ErrForm)
	wantParse(t, "a wrong sum line without its end", "sum 2", nil, 1, api.ErrForm)
	wantParse(t, "another end", "sum 1\r", nil, 1, api.ErrForm)
	wantParse(t, "two ends", "sum 1\r\n", nil, 1, api.ErrForm)
	wantParse(t, "an end of bytes 0", "sum 1\x00", nil, 1, api.ErrForm)
	wantParse(t, "no sum", "open 1\n", nil, 2, api.ErrForm)
	wantParse(t, "no sum and no end", "open 1", nil, 1, api.ErrForm)
	wantParse(t, "no sum, two lines", "open 1\nclose 1\n", nil, 3, api.ErrForm)
	wantParse(t, "no sum and no end, two lines", "open 1\nclose 1", nil, 2, api.ErrForm)
	wantParse(t, "an empty line ahead of the sum", fileOf("open 1", ""), nil, 2, api.ErrForm)
	file := fileOf("place 7 surface", "close 1", "rest 1 2 3")
	for n := range len(file) {
		wantParse(t, "a part of a file", file[:n], nil, 1+strings.Count(file[:n], "\n"), api.ErrForm)
	}
	wantParse(t, "all of the file", file, []api.Edit{
		{Kind: api.EditPlace, Place: api.Place{Height: 7, Surface: true}},
		{Kind: api.EditClose, Road: 1},
		{Kind: api.EditRest, Road: 1, Span: api.Span{Low: 2, High: 3}},
	}, 0, api.OK)
}

// P2.2: the value of the sum, and what is behind it.
func TestParseSum(t *testing.T) {
	for _, value := range []string{"0", "2", "-1", "65520", "65521", "65522", "-65520", "131043", "999999999999999999", "-999999999999999999"} {
		wantParse(t, "another value", "sum "+value+"\n", nil, 1, api.ErrSum)
		wantParse(t, "another value and more", "sum "+value+"\nsum 1\n", nil, 1, api.ErrSum)
	}
	right := sumByDefinition("open 1\n")
	for _, n := range []int{right - 1, right + 1, right + 65521, right - 65521, -right, sumByDefinition("open 1")} {
		wantParse(t, "another value", "open 1\nsum "+strconv.Itoa(n)+"\n", nil, 2, api.ErrSum)
	}
	wantParse(t, "lines in another order", strings.Replace(fileOf("open 1", "close 1"), "open 1\nclose 1", "close 1\nopen 1", 1), nil, 3, api.ErrSum)
	for _, behind := range []string{"\n", " ", "x", "\x00", "sum 1\n", "sum 1", "sum 2\n", "open 1\n", "\n\n\nx\n"} {
		wantParse(t, "bytes behind the sum", "sum 1\n"+behind, nil, 2, api.ErrForm)
		wantParse(t, "bytes behind the sum", fileOf("open 1", "close 1")+behind, nil, 4, api.ErrForm)
		wantParse(t, "bytes behind a wrong sum", "open 1\nsum 1\n"+behind, nil, 2, api.ErrSum)
	}
	twice := fileOf("open 1") + "sum " + strconv.Itoa(sumByDefinition(fileOf("open 1"))) + "\n"
	wantParse(t, "two sums", twice, nil, 3, api.ErrForm)
}

// P2.2: the first line with an error decides.
func TestParseFirstError(t *testing.T) {
	wantParse(t, "two odd lines", "open 1\nx\ny\nsum 1\n", nil, 2, api.ErrForm)
	wantParse(t, "an odd line ahead of a wrong sum", "x\nsum 1\n", nil, 1, api.ErrForm)
	wantParse(t, "an odd line behind a wrong sum", "open 1\nsum 1\nx\n", nil, 2, api.ErrSum)
	wantParse(t, "an odd line behind the sum", "sum 1\nx\n", nil, 2, api.ErrForm)
	wantParse(t, "an odd line, and no end", "x\nopen 1", nil, 1, api.ErrForm)
}

// P2.2: how many lines and bytes a file can have.
func TestParseLimits(t *testing.T) {
	lines := slices.Repeat([]string{"close 7"}, api.MaxLines)
	edits := slices.Repeat([]api.Edit{{Kind: api.EditClose, Road: 7}}, api.MaxLines)
	text := strings.Join(lines, "\n") + "\n"
	wantParse(t, "as many lines as possible", fileOf(lines...), edits, 0, api.OK)
	wantParse(t, "a line too many", fileOf(append(lines, "close 7")...), nil, 1001, api.ErrLimit)
	wantParse(t, "a line too many, without a sum", text+"close 7\n", nil, 1001, api.ErrLimit)
	wantParse(t, "a line too many, without its end", text+"close 7", nil, 1001, api.ErrForm)
	wantParse(t, "two lines too many", fileOf(append(lines, "close 7", "close 7")...), nil, 1001, api.ErrLimit)
	wantParse(t, "a line too many, an odd one", fileOf(append(lines, "close x")...), nil, 1001, api.ErrForm)
	wantParse(t, "a line too many, an empty one", fileOf(append(lines, "")...), nil, 1001, api.ErrForm)
	wantParse(t, "an odd line behind one too many", fileOf(append(lines, "close 7", "x")...), nil, 1001, api.ErrLimit)
	wantParse(t, "an odd line ahead of one too many", fileOf(append([]string{"x"}, lines...)...), nil, 1, api.ErrForm)
	wantParse(t, "as many lines as possible, without a sum", text, nil, 1001, api.ErrForm)
	wantParse(t, "as many lines as possible, with another sum", text+"sum 1\n", nil, 1001, api.ErrSum)
	wantParse(t, "as many lines as possible, and one behind the sum", fileOf(lines...)+"close 7\n", nil, 1002, api.ErrForm)

	full := strings.Repeat("x", api.MaxText)
	wantParse(t, "as many bytes as possible", full, nil, 1, api.ErrForm)
	wantParse(t, "a byte too many", full+"x", nil, 0, api.ErrLimit)
	wantParse(t, "a byte too many behind a sum", "sum 1\n"+full[5:], nil, 0, api.ErrLimit)
	wantParse(t, "as many bytes as possible, behind a sum", "sum 1\n"+full[6:], nil, 2, api.ErrForm)
	wantParse(t, "many empty lines", strings.Repeat("\n", api.MaxText), nil, 1, api.ErrForm)
	wantParse(t, "many empty lines too many", strings.Repeat("\n", api.MaxText+1), nil, 0, api.ErrLimit)
	wantParse(t, "many spaces", "close"+strings.Repeat(" ", 60000)+"\n", nil, 1, api.ErrForm)
	wantParse(t, "many digits", "close "+strings.Repeat("9", 60000)+"\n", nil, 1, api.ErrForm)
	wantParse(t, "many zeros", "close "+strings.Repeat("0", 60000)+"\n", nil, 1, api.ErrForm)
}
