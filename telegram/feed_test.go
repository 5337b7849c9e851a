package telegram

import (
	"bytes"
	"math"
	"slices"
	"testing"

	"minecontrol/api"
)

// written returns the bytes of frames, one telegram after the other.
func written(l ...api.Frame) []byte {
	var b []byte
	for _, f := range l {
		next, _ := Write(f)
		b = append(b, next...)
	}
	return b
}

// joined returns bytes one behind the other.
func joined(l ...[]byte) []byte {
	return slices.Concat(l...)
}

// sameFrames reports whether two lists of frames are equal; nil and empty lists are.
func sameFrames(a, b []api.Frame) bool {
	return slices.EqualFunc(a, b, func(x, y api.Frame) bool {
		return x.Address == y.Address && x.Kind == y.Kind && bytes.Equal(x.Data, y.Data)
	})
}

var (
	short = api.Frame{Address: 7, Kind: 1}
	three = api.Frame{Address: 5, Kind: 2, Data: []byte{1, 2, 3}}
)

// broken returns the bytes of the frame three with another byte at a place.
func broken(place int, x byte) []byte {
	b := written(three)
	b[place] = x
	return b
}

type feedCase struct {
	name    string
	held, b []byte
	dropped int
	want    []api.Frame
	left    []byte
}

// runFeeds feeds a reader that has already dropped 40 bytes.
func runFeeds(t *testing.T, l []feedCase) {
	t.Helper()
	for _, x := range l {
		r, got := Feed(api.Reader{Held: x.held, Dropped: 40}, x.b)
		if !sameFrames(got, x.want) || !bytes.Equal(r.Held, x.left) || r.Dropped != 40+x.dropped {
			t.Errorf("%s: %v, %v held, %d dropped, want %v, %v held, %d dropped", x.name, got, r.Held, r.Dropped-40, x.want, x.left, x.dropped)
		}
	}
}

// P4.2: whole telegrams are returned in their order.
func TestFeedWhole(t *testing.T) {
	full := api.Frame{Address: 255, Kind: 255, Data: count(api.MaxData)}
	inner := api.Frame{Address: 1, Kind: 1, Data: written(three)}
	starts := api.Frame{Address: 126, Kind: 126, Data: bytes.Repeat([]byte{126}, api.MaxData)}
	checks := api.Frame{Address: 66, Kind: 192}
	runFeeds(t, []feedCase{
		{"nothing", nil, nil, 0, nil, nil},
		{"empty lists", []byte{}, []byte{}, 0, nil, nil},
		{"without data", nil, written(short), 0, []api.Frame{short}, nil},
		{"three data bytes", nil, written(three), 0, []api.Frame{three}, nil},
		{"all zero", nil, written(api.Frame{}), 0, []api.Frame{{}}, nil},
		{"as many data bytes as there can be", nil, written(full), 0, []api.Frame{full}, nil},
		{"bytes as the document says", nil, []byte{126, 3, 5, 2, 1, 2, 3, 111, 254}, 0, []api.Frame{three}, nil},
		{"several", nil, written(three, short, full, short), 0, []api.Frame{three, short, full, short}, nil},
		{"all bytes are held", written(short, three), nil, 0, []api.Frame{short, three}, nil},
		{"one is held and one comes", written(short), written(three), 0, []api.Frame{short, three}, nil},
		{"the rest of one comes", written(three)[:4], written(three)[4:], 0, []api.Frame{three}, nil},
		{"only the 126 was there", []byte{126}, written(three)[1:], 0, []api.Frame{three}, nil},
		{"a telegram within a telegram", nil, written(inner), 0, []api.Frame{inner}, nil},
		{"126 everywhere", nil, written(starts, starts), 0, []api.Frame{starts, starts}, nil},
		{"a check value of 126", nil, written(checks, short), 0, []api.Frame{checks, short}, nil},
	})
}

// P4.2: what is no telegram is dropped, byte by byte.
func TestFeedDrops(t *testing.T) {
	// What looks like a telegram has two others within it, and ends in the middle of a third one.
	outer := joined([]byte{126, 21, 9, 9}, written(short, three), written(three)[:8], written(three)[8:])
	runFeeds(t, []feedCase{
		{"no 126", nil, []byte{1, 2, 3, 127, 125, 0, 255}, 7, nil, nil},
		{"bytes ahead", nil, joined([]byte{1, 2, 3}, written(three)), 3, []api.Frame{three}, nil},
		{"bytes behind", nil, joined(written(three), []byte{1, 2, 3}), 3, []api.Frame{three}, nil},
		{"bytes between", nil, joined(written(three), []byte{0}, written(short)), 1, []api.Frame{three, short}, nil},
		{"bytes that are held", []byte{5, 6}, written(short), 2, []api.Frame{short}, nil},
		{"65 data bytes", nil, []byte{126, 65}, 2, nil, nil},
		{"255 data bytes", nil, []byte{126, 255}, 2, nil, nil},
		{"65 data bytes, with the 126 held", []byte{126}, []byte{65}, 2, nil, nil},
		{"126 ahead", nil, joined([]byte{126}, written(three)), 1, []api.Frame{three}, nil},
		{"many 126 ahead", nil, joined(bytes.Repeat([]byte{126}, 50), written(three)), 50, []api.Frame{three}, nil},
		{"two times 126", nil, []byte{126, 126}, 1, nil, []byte{126}},
		{"the first byte of the check value is wrong", nil, broken(7, 110), 9, nil, nil},
		{"the last byte of the check value is wrong", nil, broken(8, 255), 9, nil, nil},
		{"the check value has its bytes the other way round", nil, []byte{126, 3, 5, 2, 1, 2, 3, 254, 111}, 9, nil, nil},
		{"another address", nil, broken(2, 4), 9, nil, nil},
		{"another kind", nil, broken(3, 3), 9, nil, nil},
		{"another data byte", nil, broken(6, 2), 9, nil, nil},
		{"a data byte less", nil, broken(1, 2), 9, nil, nil},
		{"one behind a wrong one", nil, joined(broken(8, 0), written(short)), 9, []api.Frame{short}, nil},
		{"some within a wrong one", nil, outer, 4, []api.Frame{short, three, three}, nil},
		{"126 as a wrong check value", nil, broken(8, 126), 8, nil, []byte{126}},
	})
}

// P4.2: a telegram that is not complete is held, with all that stands behind its 126.
func TestFeedHolds(t *testing.T) {
	full := written(api.Frame{Data: count(api.MaxData)})
	l := []feedCase{
		{"126", nil, []byte{126}, 0, nil, []byte{126}},
		{"126 is held", []byte{126}, nil, 0, nil, []byte{126}},
		{"126 behind others", nil, []byte{1, 126}, 1, nil, []byte{126}},
		{"126 behind a telegram", nil, joined(written(short), []byte{126}), 0, []api.Frame{short}, []byte{126}},
		{"64 data bytes to come", nil, []byte{126, 64}, 0, nil, []byte{126, 64}},
		{"no data bytes to come", nil, []byte{126, 0}, 0, nil, []byte{126, 0}},
		{"one byte is missing", nil, written(three)[:8], 0, nil, written(three)[:8]},
		{"one byte of none is missing", nil, written(short)[:5], 0, nil, written(short)[:5]},
		{"one byte of all is missing", nil, full[:69], 0, nil, full[:69]},
		{"a telegram within it waits", nil, joined([]byte{126, 6, 0, 0}, written(short)), 0, nil, joined([]byte{126, 6, 0, 0}, written(short))},
		{"and is found when it proves wrong", joined([]byte{126, 6, 0, 0}, written(short)), []byte{0, 0}, 6, []api.Frame{short}, nil},
		{"a wrong check value is not known yet", nil, broken(7, 0)[:8], 0, nil, broken(7, 0)[:8]},
	}
	for n := range written(three) {
		l = append(l, feedCase{"a part", written(three)[:n/2], written(three)[n/2 : n], 0, nil, written(three)[:n]})
	}
	runFeeds(t, l)
}

// Example 1 of the chapter: a telegram without its last byte, and then the byte.
func TestFeedLastByte(t *testing.T) {
	b := written(three)
	r, l := Feed(api.Reader{}, b[:8])
	if len(l) != 0 || !bytes.Equal(r.Held, b[:8]) || r.Dropped != 0 {
		t.Fatalf("without the last byte: %v, %v", r, l)
	}
	r, l = Feed(r, b[8:])
	if !sameFrames(l, []api.Frame{three}) || len(r.Held) != 0 || r.Dropped != 0 {
		t.Fatalf("with the last byte: %v, %v", r, l)
	}
}

// P4.2: any number can have been dropped before.
func TestFeedDropped(t *testing.T) {
	for _, before := range []int{0, 1, -1, -7, math.MinInt, math.MaxInt - 3} {
		r, l := Feed(api.Reader{Dropped: before}, joined([]byte{0, 126, 99}, written(short)))
		if r.Dropped != before+3 || !sameFrames(l, []api.Frame{short}) {
			t.Errorf("%d dropped before, and %d now; %v", before, r.Dropped, l)
		}
	}
}

// stream returns made bytes: telegrams, whole, damaged and cut off, and other bytes.
func (s *maker) stream() []byte {
	var b []byte
	for range s.below(12) {
		next := written(s.frame(12))
		switch s.below(6) {
		case 0:
			next[s.below(len(next))] ^= 1 << s.below(8)
		case 1:
			next = next[:s.below(len(next))]
		case 2:
			next = s.bytes(s.below(20), 126, 126, 0, 1, 2, 64, 65, 255)
		}
		b = append(b, next...)
	}
	return b
}

// oracle returns what a fresh reader reads from bytes, place by place, with the check value as a remainder.
func oracle(b []byte) (api.Reader, []api.Frame) {
	var r api.Reader
	var l []api.Frame
	at := 0
	for at < len(b) {
		if b[at] == 126 && at+1 == len(b) {
			break
		}
		if b[at] == 126 && b[at+1] <= 64 {
			data := at + 4
			sum := data + int(b[at+1])
			if sum+2 > len(b) {
				break
			}
			if remainder(b[at+1:sum]) == 256*int(b[sum])+int(b[sum+1]) {
				l = append(l, api.Frame{Address: int(b[at+2]), Kind: int(b[at+3]), Data: b[data:sum]})
				at = sum + 2
				continue
			}
		}
		at++
		r.Dropped++
	}
	r.Held = b[at:]
	return r, l
}

// P4.2: made bytes are read as the document says, at once and in any pieces.
func TestFeedOfMade(t *testing.T) {
	s := maker(6)
	for range 2000 {
		b := s.stream()
		wantReader, want := oracle(b)
		r, got := Feed(api.Reader{}, b)
		if !sameFrames(got, want) || !bytes.Equal(r.Held, wantReader.Held) || r.Dropped != wantReader.Dropped {
			t.Fatalf("%v: %v, %v, want %v, %v", b, r, got, wantReader, want)
		}
		got, r = nil, api.Reader{}
		for rest := b; len(rest) > 0; {
			n := min(1+s.below(9), len(rest))
			var more []api.Frame
			r, more = Feed(r, rest[:n])
			got = append(got, more...)
			rest = rest[n:]
		}
		if !sameFrames(got, want) || !bytes.Equal(r.Held, wantReader.Held) || r.Dropped != wantReader.Dropped {
			t.Fatalf("%v in pieces: %v, %v, want %v, %v", b, r, got, wantReader, want)
		}
	}
}

// Consequence: of bytes that were written one telegram after the other, nothing is dropped.
func TestFeedOfWritten(t *testing.T) {
	s := maker(7)
	for range 300 {
		var want []api.Frame
		for range s.below(9) {
			want = append(want, s.frame(api.MaxData))
		}
		r, got := Feed(api.Reader{}, written(want...))
		if !sameFrames(got, want) || len(r.Held) != 0 || r.Dropped != 0 {
			t.Fatalf("%v: %v, %v", want, r, got)
		}
	}
}

// Consequence: a telegram is found again behind one of which any bit is damaged.
func TestFeedBehindDamage(t *testing.T) {
	b := written(three)
	for bit := range 8 * len(b) {
		damaged := bytes.Clone(b)
		damaged[bit/8] ^= 1 << (bit % 8)
		r, got := Feed(api.Reader{}, joined(damaged, written(short), make([]byte, api.MaxData)))
		if !sameFrames(got, []api.Frame{short}) || len(r.Held) != 0 || r.Dropped != len(b)+api.MaxData {
			t.Errorf("the bit %d: %v, %v", bit, r, got)
		}
	}
}

// P4.2: many bytes that always look like the beginning of a telegram.
func TestFeedMany(t *testing.T) {
	b := bytes.Repeat([]byte{126, 64}, 1<<15)
	r, l := Feed(api.Reader{}, joined(b, written(short)))
	if len(l) != 0 || r.Dropped+len(r.Held) != len(b)+6 || len(r.Held) != 70-2 {
		t.Errorf("%d bytes: %d held, %d dropped, %v", len(b)+6, len(r.Held), r.Dropped, l)
	}
}

// R2: arguments stay as they are, also behind their ends; results have memory of their own.
func TestFeedLeavesArguments(t *testing.T) {
	held := joined(written(three), written(short)[:2], []byte{99, 99, 99, 99, 99, 99, 99, 99})[:11]
	b := joined(written(short)[2:], []byte{3, 126, 5}, []byte{88, 88})[:7]
	heldBefore, before := bytes.Clone(held[:cap(held)]), bytes.Clone(b[:cap(b)])
	r, l := Feed(api.Reader{Held: held}, b)
	other, more := Feed(api.Reader{Held: held}, []byte{0, 0, 0, 0, 0, 0, 0, 0})
	if !sameFrames(l, []api.Frame{three, short}) || !bytes.Equal(r.Held, []byte{126, 5}) || r.Dropped != 1 {
		t.Errorf("%v, %v", r, l)
	}
	if !sameFrames(more, []api.Frame{three}) || other.Dropped != 10 {
		t.Errorf("with other bytes: %v, %v", other, more)
	}
	for _, x := range l {
		for i := range x.Data {
			x.Data[i] = 55
		}
	}
	r.Held[0] = 55
	if !bytes.Equal(held[:cap(held)], heldBefore) || !bytes.Equal(b[:cap(b)], before) {
		t.Errorf("the arguments are %v and %v", held[:cap(held)], b[:cap(b)])
	}
	if !sameFrames(more, []api.Frame{three}) {
		t.Errorf("another result is %v", more)
	}
}

// Lists of one result share no memory, nor do they behind their ends.
func TestFeedResultsAreApart(t *testing.T) {
	r, l := Feed(api.Reader{}, joined(written(three, three), []byte{126, 3}))
	first := l[0].Data[:cap(l[0].Data)]
	for i := range first {
		first[i] = 55
	}
	if !sameFrames(l[1:], []api.Frame{three}) || !bytes.Equal(r.Held, []byte{126, 3}) {
		t.Errorf("with another first frame: %v, %v", l[1:], r)
	}
}
