package telegram

import (
	"bytes"
	"math"
	"slices"
	"testing"

	"minecontrol/api"
)

// P4.1: the check values of known bytes.
func TestCheck(t *testing.T) {
	l := []struct {
		name string
		b    []byte
		want int
	}{
		{"the example of the document", []byte("123456789"), 10673},
		{"no list", nil, 65535},
		{"no bytes", []byte{}, 65535},
		{"a letter", []byte("A"), 0xB915},
		{"0", []byte{0}, 0xE1F0},
		{"two times 0", []byte{0, 0}, 0x1D0F},
		{"1", []byte{1}, 0xF1D1},
		{"128", []byte{128}, 0x7078},
		{"255", []byte{255}, 0xFF00},
		{"two times 255", []byte{255, 255}, 0},
		{"the order counts", []byte("213456789"), 0xCC80},
	}
	for _, x := range l {
		if got := Check(x.b); got != x.want {
			t.Errorf("%s: %04X, want %04X", x.name, got, x.want)
		}
	}
}

// remainder returns the check value as what is left of a long division: of the bits of the bytes, the first 16 of them turned, with 16 zeros behind them.
func remainder(b []byte) int {
	bits := make([]bool, 8*len(b)+16)
	for i := range 8 * len(b) {
		bits[i] = b[i/8]<<(i%8)&128 != 0
	}
	for i := range 16 {
		bits[i] = !bits[i]
	}
	for i := range 8 * len(b) {
		if bits[i] {
			for _, term := range []int{0, 4, 11, 16} {
				bits[i+term] = !bits[i+term]
			}
		}
	}
	sum := 0
	for _, bit := range bits[8*len(b):] {
		sum *= 2
		if bit {
			sum++
		}
	}
	return sum
}

// maker makes numbers that look odd, but are the same in each run.
type maker uint64

// below returns the next number from 0 to n - 1.
func (s *maker) below(n int) int {
	*s = *s*6364136223846793005 + 1442695040888963407
	return int(uint64(*s)>>33) % n
}

// bytes returns n bytes, each of them one of a list, or any where there is no list.
func (s *maker) bytes(n int, list ...byte) []byte {
	b := make([]byte, n)
	for i := range b {
		b[i] = byte(s.below(256))
		if len(list) > 0 {
			b[i] = list[s.below(len(list))]
		}
	}
	return b
}

// frame returns a frame with at most so many data bytes.
func (s *maker) frame(most int) api.Frame {
	return api.Frame{Address: s.below(256), Kind: s.below(256), Data: s.bytes(s.below(most + 1))}
}

// P4.1: the check value is the remainder of a division, for all single bytes and for many made lists of bytes.
func TestCheckOfMade(t *testing.T) {
	for x := range 256 {
		if b := []byte{byte(x)}; Check(b) != remainder(b) {
			t.Errorf("%d: %04X, want %04X", x, Check(b), remainder(b))
		}
	}
	s := maker(1)
	for range 500 {
		if b := s.bytes(s.below(300)); Check(b) != remainder(b) {
			t.Fatalf("%v: %04X, want %04X", b, Check(b), remainder(b))
		}
	}
}

// count returns n bytes 0, 1, 2 ..
func count(n int) []byte {
	b := make([]byte, n)
	for i := range b {
		b[i] = byte(i)
	}
	return b
}

// P4.1: the bytes of a telegram.
func TestWrite(t *testing.T) {
	full := slices.Concat([]byte{126, 64, 200, 17}, count(64))
	full = append(full, byte(remainder(full[1:])>>8), byte(remainder(full[1:])))
	l := []struct {
		name string
		f    api.Frame
		want []byte
	}{
		{"no data", api.Frame{Address: 7, Kind: 1}, []byte{126, 0, 7, 1, 69, 42}},
		{"empty data", api.Frame{Address: 7, Kind: 1, Data: []byte{}}, []byte{126, 0, 7, 1, 69, 42}},
		{"all zero", api.Frame{}, []byte{126, 0, 0, 0, 204, 156}},
		{"three data bytes", api.Frame{Address: 5, Kind: 2, Data: []byte{1, 2, 3}}, []byte{126, 3, 5, 2, 1, 2, 3, 111, 254}},
		{"the greatest address", api.Frame{Address: 255, Kind: 3}, []byte{126, 0, 255, 3, 255, 0}},
		{"the greatest kind", api.Frame{Address: 3, Kind: 255}, []byte{126, 0, 3, 255, 135, 63}},
		{"a check value below 256", api.Frame{Address: 225, Kind: 240}, []byte{126, 0, 225, 240, 0, 0}},
		{"a check value of 126", api.Frame{Address: 66, Kind: 192}, []byte{126, 0, 66, 192, 126, 126}},
		{"all data bytes", api.Frame{Address: 200, Kind: 17, Data: count(64)}, full},
		{"126 everywhere", api.Frame{Address: 126, Kind: 126, Data: []byte{126}}, []byte{126, 1, 126, 126, 126, 133, 114}},
	}
	for _, x := range l {
		if got, code := Write(x.f); !slices.Equal(got, x.want) || code != api.OK {
			t.Errorf("%s: %v with the error %d, want %v", x.name, got, code, x.want)
		}
	}
}

// P4.1: the parts of many made telegrams.
func TestWriteOfMade(t *testing.T) {
	s := maker(2)
	for range 500 {
		f := s.frame(api.MaxData)
		n := len(f.Data)
		got, code := Write(f)
		want := slices.Concat([]byte{126, byte(n), byte(f.Address), byte(f.Kind)}, f.Data)
		sum := remainder(want[1:])
		want = append(want, byte(sum/256), byte(sum%256))
		if !slices.Equal(got, want) || code != api.OK {
			t.Fatalf("%v: %v with the error %d, want %v", f, got, code, want)
		}
	}
}

// P4.1: errors, in their order.
func TestWriteErrors(t *testing.T) {
	l := []struct {
		name string
		f    api.Frame
		want api.Errno
	}{
		{"address below 0", api.Frame{Address: -1}, api.ErrRange},
		{"address too great", api.Frame{Address: 256}, api.ErrRange},
		{"kind below 0", api.Frame{Kind: -1}, api.ErrRange},
		{"kind too great", api.Frame{Kind: 256}, api.ErrRange},
		{"least numbers", api.Frame{Address: math.MinInt, Kind: math.MinInt}, api.ErrRange},
		{"greatest address", api.Frame{Address: math.MaxInt}, api.ErrRange},
		{"greatest kind", api.Frame{Kind: math.MaxInt}, api.ErrRange},
		{"an address whose last byte is one", api.Frame{Address: 1<<32 + 5}, api.ErrRange},
		{"a kind whose last byte is one", api.Frame{Kind: -1 << 32}, api.ErrRange},
		{"a data byte too many", api.Frame{Data: make([]byte, 65)}, api.ErrLimit},
		{"256 data bytes", api.Frame{Address: 255, Kind: 255, Data: make([]byte, 256)}, api.ErrLimit},
		{"many data bytes", api.Frame{Data: make([]byte, 1<<20)}, api.ErrLimit},
		{"the address and the data", api.Frame{Address: 256, Data: make([]byte, 65)}, api.ErrRange},
		{"the kind and the data", api.Frame{Kind: -1, Data: make([]byte, 65)}, api.ErrRange},
	}
	for _, x := range l {
		if got, code := Write(x.f); len(got) != 0 || code != x.want {
			t.Errorf("%s: %v with the error %d, want %d", x.name, got, code, x.want)
		}
	}
}

// R2: arguments stay as they are, also behind their ends; the result has memory of its own.
func TestWriteLeavesArguments(t *testing.T) {
	data := append(count(5), 99)[:5]
	f := api.Frame{Address: 1, Kind: 2, Data: data}
	Check(data)
	b, _ := Write(f)
	for i := range b {
		b[i] = 77
	}
	if !bytes.Equal(data[:6], []byte{0, 1, 2, 3, 4, 99}) {
		t.Errorf("the data are %v", data[:6])
	}
}
