package msg_test

import (
	"math"
	"math/rand"
	"reflect"
	"slices"
	"strings"
	"testing"
	"unsafe"

	"kiosk/api"
	"kiosk/codec"
	"kiosk/msg"
)

// M1: of an encoding no byte may be missing at the end, and none may follow.
func TestUnpackCut(t *testing.T) {
	for _, m := range []api.Msg{least(), full()} {
		s := spelled(m)
		for end := range len(s) {
			failsUnpack(t, "cut off", s[:end])
		}
		for _, more := range []string{"\x00", "\x02", "z", "\x80", "\xff", s} {
			failsUnpack(t, "more", s+more)
			failsUnpack(t, "more ahead", more+s)
		}
	}
}

// M1, M3: numbers and lengths that are spelled with a byte too many stand for nothing, at whatever place.
func TestUnpackSpelling(t *testing.T) {
	for _, m := range []api.Msg{least(), full()} {
		for i := range pieces(m) {
			l := pieces(m)
			l[i] = "\x80" + l[i]
			failsUnpack(t, "a byte too many", strings.Join(l, ""))
		}
	}
}

// M1: of all bytes, 0 and 1 are bools.
func TestUnpackBool(t *testing.T) {
	l := pieces(full())
	for c := range 256 {
		l[7] = string([]byte{byte(c)})
		if c > 1 {
			failsUnpack(t, "bool", strings.Join(l, ""))
			continue
		}
		m := full()
		m.OK = c == 1
		holds(t, "bool", m)
	}
}

// counts are the places of the numbers of entries and of voters among the pieces of a full message.
func counts() [2]int { return [2]int{8, 8 + 1 + 4*8 + 2} }

// M1: numbers of entries and of voters that can't be, or are not what follows.
func TestUnpackCounts(t *testing.T) {
	right := [2]int{8, 9}
	for k, at := range counts() {
		l := pieces(full())
		if l[at] != codec.Int(right[k]) {
			t.Fatalf("piece %d is %q", at, l[at])
		}
		for _, n := range []int{math.MinInt, math.MinInt + 1, -9, -8, -1, 0, 1, 7, 8, 9, 10, 63, 64, most, 1 << 62, math.MaxInt} {
			if l[at] = codec.Int(n); n != right[k] {
				failsUnpack(t, "count", strings.Join(l, ""))
				failsUnpack(t, "count, and no more", strings.Join(l[:at+1], ""))
			}
		}
	}
	behind := strings.Repeat("\x02", 5000000) // more than there may be are not gathered
	start := strings.Join(pieces(least())[:8], "")
	failsUnpack(t, "many entries", start+codec.Int(1000000)+behind)
	failsUnpack(t, "many voters", start+codec.Int(0, 1, 1, 1000000)+behind)
}

// M1: lengths of Data that can't be, at each place that has Data; and at the last one those that are not what follows.
func TestUnpackLengths(t *testing.T) {
	m := full()
	for _, at := range texts(&m) {
		*at = "<here>"
		i := slices.Index(pieces(m), "\x0c<here>")
		for _, n := range []int{math.MinInt, -7, -6, -1, 1000, most, 1 << 62, math.MaxInt} {
			l := pieces(m)
			l[i] = codec.Int(n) + "<here>"
			failsUnpack(t, "length", strings.Join(l, ""))
		}
		*at = "there"
	}
	l := pieces(full())
	last := len(l) - 1
	for _, n := range []int{0, 4, 6, 63, 64} {
		l[last] = codec.Int(n) + "\x00cmd\xff"
		failsUnpack(t, "length", strings.Join(l, ""))
	}
}

// anyNumber is one that lies low as often as high.
func anyNumber(r *rand.Rand) int { return r.Intn(most+1) >> r.Intn(41) }

func anyData(r *rand.Rand) string {
	b := make([]byte, r.Intn(80)>>r.Intn(8))
	r.Read(b)
	return string(b)
}

// anyMessage is a valid one.
func anyMessage(r *rand.Rand) api.Msg {
	m := api.Msg{Kind: 1 + r.Intn(6), From: 1 + r.Intn(9), To: 1 + r.Intn(9), OK: r.Intn(2) == 1, Data: anyData(r)}
	m.Term, m.Index, m.LogTerm, m.Commit = anyNumber(r), anyNumber(r), anyNumber(r), anyNumber(r)
	for range r.Intn(9) {
		m.Entries = append(m.Entries, api.Entry{Index: anyNumber(r), Term: anyNumber(r), Kind: 1 + r.Intn(3), Data: anyData(r)})
	}
	m.Base = api.Base{Index: anyNumber(r), Term: anyNumber(r), Data: anyData(r)}
	for v := range 9 {
		if r.Intn(2) == 1 {
			m.Base.Voters = append(m.Base.Voters, v+1)
		}
	}
	return m
}

// M3: whatever is valid goes there and back.
func TestAnyMessage(t *testing.T) {
	r := rand.New(rand.NewSource(1))
	for range 20000 {
		if holds(t, "any", anyMessage(r)); t.Failed() {
			break
		}
	}
}

// damage does something to the pieces of a message; now and then what comes of it is an encoding again.
func damage(r *rand.Rand, l []string) string {
	i := r.Intn(len(l))
	switch r.Intn(7) {
	case 0:
		l[i] = codec.Int(r.Intn(12) - 1)
	case 1:
		l = slices.Delete(l, i, i+1)
	case 2:
		l = slices.Insert(l, i, codec.Int(r.Intn(10)))
	case 3:
		j := r.Intn(len(l))
		l[i], l[j] = l[j], l[i]
	case 4:
		l[i] = codec.Text(anyData(r))
	case 5:
		b := []byte(strings.Join(l, ""))
		b[r.Intn(len(b))] ^= 1 << r.Intn(8)
		return string(b)
	case 6:
		b := make([]byte, r.Intn(30))
		r.Read(b)
		return string(b)
	}
	return strings.Join(l, "")
}

// P1, M1, M3: any bytes; what is accepted is what Pack writes, of a message that is valid.
func TestUnpackAnyBytes(t *testing.T) {
	r := rand.New(rand.NewSource(2))
	accepted := 0
	for range 200000 {
		s := damage(r, pieces(anyMessage(r)))
		m, e := msg.Unpack(s)
		switch e {
		case api.OK:
			accepted++
			if p, e := msg.Pack(m); p != s || e != api.OK || !msg.Right(m) || spelled(m) != s {
				t.Fatalf("%q: accepted as %v", s, m)
			}
		case api.ErrForm:
			if !reflect.DeepEqual(m, api.Msg{}) {
				t.Fatalf("%q: %v and a message", s, e)
			}
		default:
			t.Fatalf("%q: %v", s, e)
		}
	}
	if accepted < 10000 || accepted > 190000 {
		t.Errorf("%d were accepted", accepted)
	}
}

// P3: two answers share nothing, and neither do the parts of one.
func TestUnpackNew(t *testing.T) {
	s := spelled(full())
	x, _ := msg.Unpack(s)
	y, _ := msg.Unpack(s)
	x.Entries[0].Data, x.Base.Voters[0] = "mine", 7
	_ = append(x.Entries, api.Entry{Index: 77})
	_ = append(x.Base.Voters, 77)
	if z, _ := msg.Unpack(s); !reflect.DeepEqual(y, full()) || !reflect.DeepEqual(z, full()) {
		t.Error(y, z)
	}
}

// M1: a message doesn't hold on to the bytes that it was read from: an entry is kept long after its packet.
func TestUnpackOwn(t *testing.T) {
	s := spelled(full())
	from := uintptr(unsafe.Pointer(unsafe.StringData(s)))
	m, _ := msg.Unpack(s)
	for i, at := range texts(&m) {
		p := uintptr(unsafe.Pointer(unsafe.StringData(*at)))
		if *at != "" && from <= p && p < from+uintptr(len(s)) {
			t.Errorf("text %d is a piece of the packet", i)
		}
	}
}
