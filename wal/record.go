package wal

import (
	"strings"

	"kiosk/api"
	"kiosk/codec"
)

// Kinds of records. 0 is none: it is also what a number that can't be read comes out as.
const (
	hardKind  = 1
	entryKind = 2
	resetKind = 3
)

// record is one of a segment: its kind tells which of the others it has.
type record struct {
	kind  int
	hard  api.Hard
	entry api.Entry
}

func hardFits(h api.Hard) bool { return h.Term >= 0 && h.Vote >= 0 }

func entryFits(e api.Entry) bool {
	return e.Index >= 1 && e.Term >= 0 && api.Noop <= e.Kind && e.Kind <= api.Config
}

// numbersRecord is a frame of numbers alone, which is never too long.
func numbersRecord(l ...int) string {
	f, _ := codec.Frame(codec.Int(l...))
	return f
}

func hardRecord(h api.Hard) string { return numbersRecord(hardKind, h.Term, h.Vote) }

func resetRecord() string { return numbersRecord(resetKind) }

// entryRecords are those of l, one behind the other; false if one of them can't be stored.
func entryRecords(l []api.Entry) (string, bool) {
	var b strings.Builder
	for _, x := range l {
		if !entryFits(x) {
			return "", false
		}
		f, e := codec.Frame(codec.Int(entryKind, x.Index, x.Term, x.Kind) + codec.Text(x.Data))
		if e != api.OK {
			return "", false
		}
		b.WriteString(f)
	}
	return b.String(), true
}

// cutNumbers takes numbers off the beginning of s, and answers what is left.
func cutNumbers(s string, l ...*int) (string, bool) {
	for _, p := range l {
		n, rest, ok := codec.ToInt(s)
		if !ok {
			return "", false
		}
		*p, s = n, rest
	}
	return s, true
}

func toHard(s string) (api.Hard, bool) {
	var h api.Hard
	rest, ok := cutNumbers(s, &h.Term, &h.Vote)
	return h, ok && rest == "" && hardFits(h)
}

func toEntry(s string) (api.Entry, bool) {
	var x api.Entry
	rest, ok := cutNumbers(s, &x.Index, &x.Term, &x.Kind)
	if !ok {
		return x, false
	}
	x.Data, rest, ok = codec.ToText(rest)
	return x, ok && rest == "" && entryFits(x)
}

// scan hands on the records at the beginning of s. It answers how many bytes they have, and why they end ahead of the end of s, if they do.
func scan(s string, take func(record)) (int, api.Errno) {
	end := 0
frames:
	for end < len(s) {
		payload, size, e := codec.Unframe(s[end:])
		if e == api.ErrSum {
			return end, api.ErrSum
		}
		kind, rest, ok := codec.ToInt(payload)
		r := record{kind: kind}
		switch kind {
		case hardKind:
			r.hard, ok = toHard(rest)
		case entryKind:
			r.entry, ok = toEntry(rest)
		case resetKind:
			ok = rest == ""
		default:
			break frames
		}
		if !ok {
			break frames
		}
		take(r)
		end += size
	}
	if end < len(s) {
		return end, api.ErrForm
	}
	return end, api.OK
}
