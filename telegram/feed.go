package telegram

import (
	"bytes"
	"slices"

	"minecontrol/api"
)

// Feed puts bytes behind those that are held, and returns the telegrams that are found from the front on.
func Feed(r api.Reader, b []byte) (api.Reader, []api.Frame) {
	var l []api.Frame
	left := slices.Concat(r.Held, b)
	for len(left) > 0 {
		n := size(left)
		if n > len(left) {
			break
		}
		if n == 0 || !intact(left[:n]) {
			// Only one byte: a telegram may begin within what looked like one.
			left = left[1:]
			r.Dropped++
			continue
		}
		l = append(l, frame(left[:n]))
		left = left[n:]
	}
	// A copy does not keep the bytes that have been read.
	r.Held = bytes.Clone(left)
	return r, l
}

// size returns how many bytes the telegram at the front has, 0 if none begins there. Where its number of data bytes is still to come, it is taken to have none, which is more than one byte too.
func size(left []byte) int {
	switch {
	case left[0] != start:
		return 0
	case len(left) == 1:
		return least
	case left[1] > api.MaxData:
		return 0
	}
	return least + int(left[1])
}

// intact reports whether the check value of a whole telegram is the one of its bytes.
func intact(telegram []byte) bool {
	end := len(telegram) - tail
	return Check(telegram[1:end]) == int(telegram[end])<<8+int(telegram[end+1])
}

// frame returns what a whole telegram says.
func frame(telegram []byte) api.Frame {
	return api.Frame{
		Address: int(telegram[2]),
		Kind:    int(telegram[3]),
		Data:    bytes.Clone(telegram[head : len(telegram)-tail]),
	}
}
