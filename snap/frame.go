package snap

import (
	"iter"
	"slices"
	"strings"

	"kiosk/api"
	"kiosk/codec"
)

// chunkSize is how many bytes of Data a chunk has, but for the last one.
const chunkSize = 1000

// fixedNumbers are those of a head that is without voters: Index, Term, their number, and the length of Data.
const fixedNumbers = 4

// frame is that of a payload which is never too long: a head or a chunk.
func frame(payload string) string {
	f, _ := codec.Frame(payload)
	return f
}

// unframe answers the payload of the first frame, and what follows it. A length that is too great for a frame is one that is wrong here.
func unframe(s string) (string, string, api.Errno) {
	payload, size, e := codec.Unframe(s)
	if e == api.ErrLong {
		e = api.ErrForm
	}
	return payload, s[size:], e
}

// head tells all of a base but its Data, of which it tells the length.
func head(b api.Base) string {
	return codec.Int(b.Index, b.Term, len(b.Voters)) + codec.Int(b.Voters...) + codec.Int(len(b.Data))
}

// toHead is a base without its Data, and the length of them; false if no head of a valid base is like that.
func toHead(s string) (api.Base, int, bool) {
	l, ok := numbers(s)
	last := len(l) - 1
	if !ok || len(l) < fixedNumbers || l[2] != len(l)-fixedNumbers {
		return api.Base{}, 0, false
	}
	b := api.Base{Index: l[0], Term: l[1], Voters: slices.Clone(l[3:last])}
	size := l[last]
	return b, size, Right(b) && 0 <= size && size <= maxData
}

// numbers are those that s consists of; false if there is anything else.
func numbers(s string) ([]int, bool) {
	var l []int
	for s != "" {
		n, rest, ok := codec.ToInt(s)
		if !ok {
			return nil, false
		}
		l, s = append(l, n), rest
	}
	return l, true
}

// chunks are pieces of the data, in order.
func chunks(data string) iter.Seq[string] {
	return func(yield func(string) bool) {
		for from := 0; from < len(data); from += chunkSize {
			if !yield(data[from:min(from+chunkSize, len(data))]) {
				return
			}
		}
	}
}

// frames are the encoding of a valid base, piece by piece.
func frames(b api.Base) iter.Seq[string] {
	return func(yield func(string) bool) {
		if !yield(frame(head(b))) {
			return
		}
		for c := range chunks(b.Data) {
			if !yield(frame(c)) {
				return
			}
		}
	}
}

// toData joins the chunks at the beginning of s that are so many bytes in all, and answers what follows them.
func toData(s string, size int) (string, string, api.Errno) {
	var data strings.Builder
	for data.Len() < size {
		c, rest, e := unframe(s)
		if e != api.OK {
			return "", "", e
		}
		if len(c) != min(chunkSize, size-data.Len()) {
			return "", "", api.ErrForm
		}
		data.WriteString(c)
		s = rest
	}
	return data.String(), s, api.OK
}
