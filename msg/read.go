package msg

import (
	"strings"

	"kiosk/api"
	"kiosk/codec"
)

// reader is what is left of a text. Once something can't be read, nothing behind it is.
type reader struct {
	left string
	ok   bool
}

// read decodes one value for each of the takers, and hands it to that one.
func read[T any](r *reader, decode func(string) (T, string, bool), takers ...func(T)) {
	for _, take := range takers {
		if !r.ok {
			return
		}
		var x T
		if x, r.left, r.ok = decode(r.left); r.ok {
			take(x)
		}
	}
}

// list, entry, snapshot and message take the values that were decoded, each by a method of its own.
type (
	list[T any] []T
	entry       api.Entry
	snapshot    api.Base
	message     api.Msg
)

func (l *list[T]) item(x T) { *l = append(*l, x) }

func (e *entry) index(n int)   { e.Index = n }
func (e *entry) term(n int)    { e.Term = n }
func (e *entry) kind(n int)    { e.Kind = n }
func (e *entry) data(s string) { e.Data = own(s) }

func (b *snapshot) index(n int)    { b.Index = n }
func (b *snapshot) term(n int)     { b.Term = n }
func (b *snapshot) voters(l []int) { b.Voters = l }
func (b *snapshot) data(s string)  { b.Data = own(s) }

func (m *message) kind(n int)            { m.Kind = n }
func (m *message) from(n int)            { m.From = n }
func (m *message) to(n int)              { m.To = n }
func (m *message) term(n int)            { m.Term = n }
func (m *message) index(n int)           { m.Index = n }
func (m *message) logTerm(n int)         { m.LogTerm = n }
func (m *message) commit(n int)          { m.Commit = n }
func (m *message) ok(b bool)             { m.OK = b }
func (m *message) entries(l []api.Entry) { m.Entries = l }
func (m *message) base(b api.Base)       { m.Base = b }
func (m *message) data(s string)         { m.Data = own(s) }

// own is a copy: a piece of the text would keep all of it, and entries are kept for long.
func own(s string) string { return strings.Clone(s) }

// toList reads how many values there are, and these. More than there may be are not even looked at.
func toList[T any](s string, most int, decode func(string) (T, string, bool)) ([]T, string, bool) {
	n, rest, ok := codec.ToInt(s)
	if !ok || n < 0 || n > most {
		return nil, "", false
	}
	var l list[T]
	r := reader{rest, true}
	for range n {
		read(&r, decode, l.item)
	}
	if !r.ok {
		return nil, "", false
	}
	return l, r.left, true
}

func toEntry(s string) (api.Entry, string, bool) {
	var e entry
	r := reader{s, true}
	read(&r, codec.ToInt, e.index, e.term, e.kind)
	read(&r, codec.ToText, e.data)
	return api.Entry(e), r.left, r.ok
}

func toEntries(s string) ([]api.Entry, string, bool) { return toList(s, api.MaxBatch, toEntry) }

func toBase(s string) (api.Base, string, bool) {
	var b snapshot
	r := reader{s, true}
	read(&r, codec.ToInt, b.index, b.term)
	read(&r, ToVoters, b.voters)
	read(&r, codec.ToText, b.data)
	return api.Base(b), r.left, r.ok
}

// toMsg is a message that need not be valid.
func toMsg(s string) (api.Msg, string, bool) {
	var m message
	r := reader{s, true}
	read(&r, codec.ToInt, m.kind, m.from, m.to, m.term, m.index, m.logTerm, m.commit)
	read(&r, codec.ToBool, m.ok)
	read(&r, toEntries, m.entries)
	read(&r, toBase, m.base)
	read(&r, codec.ToText, m.data)
	return api.Msg(m), r.left, r.ok
}
