package msg_test

import (
	"math"
	"reflect"
	"slices"
	"strings"
	"testing"

	"kiosk/api"
	"kiosk/codec"
	"kiosk/msg"
)

const most = 1 << 40

// pieces are the encoding of a message by the words of the chapter, a value each, whether the message is valid or not.
func pieces(m api.Msg) []string {
	l := ints(m.Kind, m.From, m.To, m.Term, m.Index, m.LogTerm, m.Commit)
	l = append(l, map[bool]string{false: "\x00", true: "\x01"}[m.OK])
	l = append(l, ints(len(m.Entries))...)
	for _, e := range m.Entries {
		l = append(append(l, ints(e.Index, e.Term, e.Kind)...), codec.Text(e.Data))
	}
	l = append(l, ints(m.Base.Index, m.Base.Term, len(m.Base.Voters))...)
	return append(append(l, ints(m.Base.Voters...)...), codec.Text(m.Base.Data), codec.Text(m.Data))
}

func ints(l ...int) []string {
	var s []string
	for _, n := range l {
		s = append(s, codec.Int(n))
	}
	return s
}

func spelled(m api.Msg) string { return strings.Join(pieces(m), "") }

// least is a message in which nothing is more than it must be.
func least() api.Msg { return api.Msg{Kind: 1, From: 1, To: 1} }

// full is a message that has some of everything, new at each call.
func full() api.Msg {
	m := api.Msg{Kind: 3, From: 9, To: 2, Term: 70, Index: 9000, LogTerm: 65, Commit: 64, OK: true, Data: "\x00cmd\xff"}
	for i := range 8 {
		m.Entries = append(m.Entries, api.Entry{Index: 9001 + i, Term: 66 + i, Kind: 1 + i%3, Data: strings.Repeat("e\x80", i)})
	}
	m.Base = api.Base{Index: 63, Term: 5, Voters: []int{1, 2, 3, 4, 5, 6, 7, 8, 9}, Data: "snap"}
	return m
}

// holds is for a message that is valid: it may be, and goes there and back.
func holds(t *testing.T, what string, m api.Msg) {
	t.Helper()
	want := spelled(m)
	if !msg.Right(m) {
		t.Errorf("%s: Right is false", what)
	}
	if s, e := msg.Pack(m); s != want || e != api.OK {
		t.Errorf("%s: Pack: %.80q %v, not %.80q", what, s, e, want)
	}
	if x, e := msg.Unpack(want); e != api.OK || !reflect.DeepEqual(x, m) {
		t.Errorf("%s: Unpack: %.200q %v", what, spelled(x), e)
	}
}

// refused is for a message that is not valid: it may not be, is not packed, and its bytes are no encoding.
func refused(t *testing.T, what string, m api.Msg) {
	t.Helper()
	if msg.Right(m) {
		t.Errorf("%s: Right is true", what)
	}
	if s, e := msg.Pack(m); s != "" || e != api.ErrArg {
		t.Errorf("%s: Pack: %.80q %v", what, s, e)
	}
	failsUnpack(t, what, spelled(m))
}

func failsUnpack(t *testing.T, what, s string) {
	t.Helper()
	if m, e := msg.Unpack(s); e != api.ErrForm || !reflect.DeepEqual(m, api.Msg{}) {
		t.Errorf("%s: Unpack(%.80q): %.200q %v", what, s, spelled(m), e)
	}
}

// The examples of the chapter, byte by byte.
func TestExamples(t *testing.T) {
	m := api.Msg{Kind: 1, From: 1, To: 2, Term: 3}
	if s, e := msg.Pack(m); s != "\x02\x02\x04\x06\x00\x00\x00\x00\x00\x00\x00\x00\x00\x00" || e != api.OK {
		t.Errorf("%q %v", s, e)
	}
	if s, e := msg.Pack(api.Msg{}); s != "" || e != api.ErrArg {
		t.Errorf("%q %v", s, e)
	}
	failsUnpack(t, "nothing", "")
	if s := msg.Voters([]int{1, 3}); s != "\x04\x02\x06" {
		t.Errorf("%q", s)
	}
}

// M1: every value of a message at its place, byte by byte.
func TestPackBytes(t *testing.T) {
	m := api.Msg{Kind: 5, From: 6, To: 7, Term: 8, Index: 10, LogTerm: 11, Commit: 12, OK: true, Data: "d"}
	m.Entries = []api.Entry{{Index: 13, Term: 14, Kind: 2, Data: "abc"}, {Index: 15, Term: 16, Kind: 3}}
	m.Base = api.Base{Index: 17, Term: 18, Voters: []int{4, 9}, Data: "ef"}
	want := "\x0a\x0c\x0e\x10\x14\x16\x18" + "\x01" + "\x04" + "\x1a\x1c\x04\x06abc" + "\x1e\x20\x06\x00" +
		"\x22\x24\x04\x08\x12\x04ef" + "\x02d"
	if s, e := msg.Pack(m); s != want || e != api.OK {
		t.Errorf("%q %v", s, e)
	}
	if x, e := msg.Unpack(want); !reflect.DeepEqual(x, m) || e != api.OK {
		t.Errorf("%v %v", x, e)
	}
	holds(t, "bytes", m)
}

// M1, M3: messages that have all, or nothing, and each part alone.
func TestParts(t *testing.T) {
	holds(t, "least", least())
	holds(t, "full", full())
	for what, change := range map[string]func(m *api.Msg){
		"ok":           func(m *api.Msg) { m.OK = true },
		"to itself":    func(m *api.Msg) { m.From, m.To = 4, 4 },
		"an entry":     func(m *api.Msg) { m.Entries = []api.Entry{{Kind: 1}} },
		"entries":      func(m *api.Msg) { m.Entries = full().Entries },
		"equal ones":   func(m *api.Msg) { m.Entries = slices.Repeat(full().Entries[3:4], 8) },
		"falling ones": func(m *api.Msg) { m.Entries = []api.Entry{{Index: 9, Term: 9, Kind: 3}, {Index: 2, Term: 1, Kind: 2}} },
		"a base":       func(m *api.Msg) { m.Base = full().Base },
		"voters":       func(m *api.Msg) { m.Base.Voters = []int{2, 7} },
		"base data":    func(m *api.Msg) { m.Base.Data = "x" },
		"data":         func(m *api.Msg) { m.Data = "\x00\x80\xff" },
	} {
		m := least()
		change(&m)
		holds(t, what, m)
	}
	for kind := api.MVote; kind <= api.MForward; kind++ { // any kind may have any part
		m := full()
		m.Kind = kind
		holds(t, "full", m)
		m.OK = false
		holds(t, "full without OK", m)
	}
}

// field is a number of a message, and where it must lie.
type field struct {
	what      string
	at        *int
	low, high int
}

func fields(m *api.Msg) []field {
	l := []field{
		{"Kind", &m.Kind, 1, 6}, {"From", &m.From, 1, 9}, {"To", &m.To, 1, 9},
		{"Term", &m.Term, 0, most}, {"Index", &m.Index, 0, most}, {"LogTerm", &m.LogTerm, 0, most}, {"Commit", &m.Commit, 0, most},
		{"Base.Index", &m.Base.Index, 0, most}, {"Base.Term", &m.Base.Term, 0, most},
	}
	for i := range m.Entries {
		e := &m.Entries[i]
		l = append(l, field{"Entry.Index", &e.Index, 0, most}, field{"Entry.Term", &e.Term, 0, most}, field{"Entry.Kind", &e.Kind, 1, 3})
	}
	return l
}

// M1: each number at its edges, and behind them.
func TestNumbers(t *testing.T) {
	m := full()
	for _, f := range fields(&m) {
		was := *f.at
		for _, *f.at = range []int{f.low, f.low + 1, f.high - 1, f.high} {
			holds(t, f.what, m)
		}
		for _, *f.at = range []int{f.low - 1, f.high + 1, -1, -f.high, -f.high - 1, 1 << 60, math.MaxInt, math.MinInt} {
			refused(t, f.what, m)
		}
		*f.at = was
	}
	holds(t, "full again", m)
}

// M1: the voters of a base rise, from 1 to 9; there may be none, and nine.
func TestBaseVoters(t *testing.T) {
	for _, v := range [][]int{nil, {1}, {9}, {1, 2}, {1, 9}, {8, 9}, {2, 4, 6}, {1, 2, 3, 4, 5, 6, 7, 8}, {1, 2, 3, 4, 5, 6, 7, 8, 9}} {
		m := full()
		m.Base.Voters = v
		holds(t, "voters", m)
	}
	for _, v := range [][]int{
		{0}, {-1}, {10}, {math.MinInt}, {math.MaxInt}, {0, 1}, {-1, 1}, {1, 10}, {9, 10}, {math.MinInt, 1}, {1, math.MaxInt},
		{1, 1}, {9, 9}, {2, 1}, {9, 1}, {1, 3, 2}, {2, 1, 3}, {1, 2, 2}, {1, 1, 2}, {3, 2, 1}, {5, 6, 7, 0},
		{1, 2, 3, 4, 5, 6, 7, 8, 8}, {1, 2, 3, 4, 5, 6, 7, 8, 10}, {0, 1, 2, 3, 4, 5, 6, 7, 8},
		{1, 2, 3, 4, 5, 6, 7, 8, 9, 9}, {1, 2, 3, 4, 5, 6, 7, 8, 9, 10}, {0, 1, 2, 3, 4, 5, 6, 7, 8, 9}, make([]int, 100000),
	} {
		for _, m := range []api.Msg{least(), full()} {
			m.Base.Voters = v
			refused(t, "voters", m)
		}
	}
}

// M1: eight entries may be, nine may not, and each of them must be right.
func TestEntries(t *testing.T) {
	for n := range 9 {
		m := least()
		m.Entries = full().Entries[:n:n]
		if n == 0 {
			m.Entries = nil
		}
		holds(t, "entries", m)
	}
	for _, n := range []int{9, 10, 63, 64, 100000} {
		m := least()
		m.Entries = slices.Repeat([]api.Entry{{Index: 1, Term: 1, Kind: 2}}, n)
		refused(t, "entries", m)
	}
	m := least()
	m.Entries = make([]api.Entry, 8) // of no kind
	refused(t, "entries", m)
	for i := range 8 {
		m := full()
		m.Entries[i] = api.Entry{}
		refused(t, "entry", m)
	}
}

// texts are the places of a message that have Data.
func texts(m *api.Msg) []*string {
	l := []*string{&m.Data, &m.Base.Data}
	for i := range m.Entries {
		l = append(l, &m.Entries[i].Data)
	}
	return l
}

// M1: Data of each length up to 4000000 bytes, at each place, and no more.
func TestData(t *testing.T) {
	long := strings.Repeat("\x00\x80\xffab", 800001)
	m := full()
	for _, at := range texts(&m) {
		was := *at
		for _, n := range []int{0, 1, 63, 64, 8191, 8192, 65536, 65537, 4000000} {
			*at = long[:n]
			holds(t, "data", m)
		}
		for _, n := range []int{4000001, 4000005} {
			*at = long[:n]
			refused(t, "data", m)
		}
		*at = was
	}
	for _, at := range texts(&m) { // all at once
		*at = long[:4000000]
	}
	holds(t, "all data", m)
}

// P3: what is handed in stays, and what lies behind its end is not read.
func TestPackKeeps(t *testing.T) {
	m, same := full(), full()
	bad := []api.Entry{{Index: 1, Kind: 2, Data: "a"}, {Index: -1}, {Kind: 99}}
	m.Entries, same.Entries = bad[:1], []api.Entry{bad[0]}
	v := []int{1, 2, 9, 1, 0}
	m.Base.Voters, same.Base.Voters = v[:3], []int{1, 2, 9}
	s, e := msg.Pack(m)
	if s != spelled(same) || e != api.OK || !msg.Right(m) || !reflect.DeepEqual(m, same) {
		t.Errorf("%q %v %v", s, e, m)
	}
	if !slices.Equal(v, []int{1, 2, 9, 1, 0}) || bad[1] != (api.Entry{Index: -1}) || bad[2] != (api.Entry{Kind: 99}) {
		t.Error("what lies behind the end was changed:", v, bad)
	}
}
