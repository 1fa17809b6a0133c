package snap_test

import (
	"encoding/binary"
	"hash/crc32"
	"math"
	"math/rand"
	"reflect"
	"slices"
	"strings"
	"testing"

	"kiosk/api"
	"kiosk/codec"
	"kiosk/snap"
)

const most = 1 << 40

// frame is that of a payload by the words of chapter 1.
func frame(payload string) string {
	size := binary.BigEndian.AppendUint32(nil, uint32(len(payload)))
	sum := crc32.Checksum([]byte(string(size)+payload), crc32.MakeTable(crc32.Castagnoli))
	return string(binary.BigEndian.AppendUint32(size, sum)) + payload
}

// spelled is the encoding of a base, frame by frame, by the words of the chapter.
func spelled(b api.Base) []string {
	l := []int{b.Index, b.Term, len(b.Voters)}
	l = append(append(l, b.Voters...), len(b.Data))
	frames := []string{frame(codec.Int(l...))}
	for s := b.Data; s != ""; s = s[min(1000, len(s)):] {
		frames = append(frames, frame(s[:min(1000, len(s))]))
	}
	return frames
}

func base(index int, data string) api.Base {
	return api.Base{Index: index, Term: 1, Voters: []int{1, 2, 3}, Data: data}
}

// text is n bytes of all values.
func text(n int) string {
	b := make([]byte, n)
	for i := range b {
		b[i] = byte(i*7 + i/256)
	}
	return string(b)
}

func packs(t *testing.T, b api.Base) string {
	t.Helper()
	s, e := snap.Pack(b)
	if e != api.OK {
		t.Fatalf("Pack of %d %d %v and %d bytes: %v", b.Index, b.Term, b.Voters, len(b.Data), e)
	}
	return s
}

func failsUnpack(t *testing.T, s string, want api.Errno) {
	t.Helper()
	if b, e := snap.Unpack(s); e != want || !reflect.DeepEqual(b, api.Base{}) {
		t.Errorf("Unpack(%.40q) of %d bytes: %d %d %v and %d bytes, %v, not %v", s, len(s), b.Index, b.Term, b.Voters, len(b.Data), e, want)
	}
}

// valid are bases at the edges of what a base may be.
func valid() []api.Base {
	l := []api.Base{
		{Index: 1, Voters: []int{1}},
		{Index: most, Term: most, Voters: []int{9}, Data: "x"},
		{Index: 7, Term: 3, Voters: []int{1, 2, 3, 4, 5, 6, 7, 8, 9}, Data: "abc"},
		{Index: 64, Term: 64, Voters: []int{2, 9}, Data: "\x00\xff"},
		{Index: 5, Term: 6, Voters: []int{1, 3, 5}}, // a Term beyond the Index
	}
	for _, n := range []int{1, 2, 999, 1000, 1001, 1999, 2000, 2001, 3500, 65536, 100000} {
		l = append(l, base(n, text(n)))
	}
	return l
}

// wrong are bases that are not valid.
func wrong() []api.Base {
	var l []api.Base
	for _, n := range []int{math.MinInt, -most, -1, 0, most + 1, math.MaxInt} {
		l = append(l, api.Base{Index: n, Voters: []int{1}})
	}
	for _, n := range []int{math.MinInt, -most, -1, most + 1, math.MaxInt} {
		l = append(l, api.Base{Index: 1, Term: n, Voters: []int{1}})
	}
	for _, v := range [][]int{
		nil, {}, {0}, {-1}, {10}, {math.MinInt}, {math.MaxInt}, {0, 1}, {1, 10}, {9, 10}, {1, 1}, {9, 9}, {2, 1}, {1, 3, 2}, {1, 2, 2, 3}, {3, 2, 1},
		{1, 2, 3, 4, 5, 6, 7, 8, 9, 9}, {1, 2, 3, 4, 5, 6, 7, 8, 9, 10}, {0, 1, 2, 3, 4, 5, 6, 7, 8, 9}, {1, 2, 3, 4, 5, 6, 7, 8, 10}, make([]int, 100000),
	} {
		l = append(l, api.Base{Index: 1, Term: 1, Voters: v})
	}
	return append(l, api.Base{}, base(1, strings.Repeat("x", 4000001)), base(0, "x"))
}

// S1: the bases that may be, and that they are written as spelled; S4: and read back.
func TestPack(t *testing.T) {
	for _, b := range append(valid(), base(3, text(3999999)), base(3, text(4000000))) {
		s := packs(t, b)
		if !snap.Right(b) || s != strings.Join(spelled(b), "") {
			t.Errorf("Pack of %d %d %v and %d bytes: %.60q", b.Index, b.Term, b.Voters, len(b.Data), s)
		}
		if x, e := snap.Unpack(s); e != api.OK || !reflect.DeepEqual(x, b) {
			t.Errorf("Unpack of %d %d %v and %d bytes: %v", b.Index, b.Term, b.Voters, len(b.Data), e)
		}
	}
}

// S1: the bytes of an encoding, one by one.
func TestPackBytes(t *testing.T) {
	s := packs(t, base(3, "abc"))
	if len(s) != 8+7+8+3 || s[:4] != "\x00\x00\x00\x07" || s[8:15] != "\x06\x02\x06\x02\x04\x06\x06" || s[15:19] != "\x00\x00\x00\x03" || s[23:] != "abc" {
		t.Errorf("%q", s)
	}
	if s := packs(t, api.Base{Index: 1, Voters: []int{1}}); s[8:] != "\x02\x00\x02\x02\x00" {
		t.Errorf("%q", s) // without Data there is no chunk
	}
	if s := packs(t, base(1, text(2000))); len(s) != 8+8+2*1008 {
		t.Errorf("%d bytes", len(s)) // a last chunk that is full has none behind it
	}
}

// S1, P2: the bases that may not be.
func TestPackWrong(t *testing.T) {
	for i, b := range wrong() {
		if s, e := snap.Pack(b); snap.Right(b) || s != "" || e != api.ErrArg {
			t.Errorf("base %d: %d bytes, %v", i, len(s), e)
		}
	}
}

// S1: the first frame is wrong: the error of Unframe, but no ErrLong.
func TestUnpackFirstFrame(t *testing.T) {
	s := packs(t, base(3, "abc"))
	for _, c := range []struct {
		s string
		e api.Errno
	}{
		{"", api.ErrForm},
		{"\x00", api.ErrForm},
		{"\x00\x00\x00", api.ErrForm},
		{"\xff\xff\xff\xff", api.ErrForm},
		{"\x00\x01\x00\x01" + s[4:], api.ErrForm},
		{"\x00\x01\x00\x01" + text(70000), api.ErrForm},
		{"\x00\x01\x00\x00", api.ErrForm},
		{s[:8], api.ErrForm},
		{"\x00\x00\x00\x06" + s[4:], api.ErrSum},
		{"\x00\x00\x00\x07zzzz" + s[8:], api.ErrSum},
		{s[:8] + "z" + s[9:], api.ErrSum},
		{s[:8] + "zzzzzzz", api.ErrSum},            // of another sum, and then cut off
		{"\x00\x00\x00\x00zzzz" + s, api.ErrSum},   // and no head
		{s[:8] + "\x00" + s[9:] + "z", api.ErrSum}, // and more behind it
	} {
		failsUnpack(t, c.s, c.e)
	}
}

// headOf is a frame of numbers and of bytes behind them.
func headOf(behind string, l ...int) string { return frame(codec.Int(l...) + behind) }

// S1: the first payload is none that Pack writes.
func TestUnpackHead(t *testing.T) {
	badSum := "\x00\x00\x00\x00zzzz" // what is wrong with a head counts ahead of it
	for i, s := range []string{
		headOf(""), headOf("x"), headOf("", 3), headOf("", 3, 1), headOf("", 3, 1, 0), headOf("", 3, 1, 1),
		headOf("", 3, 1, 0, 0),                   // no voters
		headOf("", 3, 1, 1, 0),                   // a voter or a length is missing
		headOf("", 3, 1, 1, 1),                   // the length is missing
		headOf("", 3, 1, 2, 1, 0),                // fewer voters than told
		headOf("", 3, 1, 2, 1, 2),                // and no length
		headOf("", 3, 1, 1, 1, 2, 0),             // more voters than told
		headOf("", 3, 1, 1, 1, 0, 0),             // a number more
		headOf("\x80", 3, 1, 1, 1, 0),            // a byte more
		headOf("z", 3, 1, 1, 1, 0),               // a byte more, that is a number
		headOf("\x80\x00", 3, 1, 1, 1),           // a length of a byte too many
		headOf("\x80\x02\x00", 3, 1, 1),          // a voter of a byte too many
		frame("\x80" + codec.Int(3, 1, 1, 1, 0)), // an Index of a byte too many
		headOf("\xff", 3, 1, 1, 1),               // a length that is cut off
		headOf("", 3, 1, -1, 0),                  // numbers of voters that can't be
		headOf("", 3, 1, -1),
		headOf("", 3, 1, -1, 1, 0),
		headOf("", 3, 1, math.MaxInt, 1, 0),
		headOf("", 3, 1, math.MinInt, 1, 0),
		headOf("", 3, 1, math.MinInt+1, 1, 0),
		headOf("", 3, 1, 1, 1, -1), // lengths that can't be
		headOf("", 3, 1, 1, 1, math.MinInt),
		headOf("", 3, 1, 1, 1, math.MaxInt),
		headOf("", 3, 1, 1, 1, 4000001),
		headOf("", 3, 1, 10, 0, 1, 2, 3, 4, 5, 6, 7, 8, 9, 0),
		headOf("", 3, 1, 10, 1, 2, 3, 4, 5, 6, 7, 8, 9, 10, 0),
		frame(strings.Repeat("\x02", 65536)),
		frame(strings.Repeat("\xff", 65536)),
	} {
		if failsUnpack(t, s, api.ErrForm); t.Failed() {
			t.Fatalf("head %d", i)
		}
		failsUnpack(t, s+badSum, api.ErrForm)
	}
	for _, b := range wrong() {
		if len(b.Voters) < 100 {
			failsUnpack(t, strings.Join(spelled(b), ""), api.ErrForm)
			failsUnpack(t, spelled(b)[0]+badSum, api.ErrForm)
		}
	}
}

// S1: the chunks are wrong: the first error counts.
func TestUnpackChunks(t *testing.T) {
	x := text(2500)
	f := spelled(base(3, x))
	head, badSum := f[0], "\x00\x00\x03\xe8zzzz"+x[:1000]
	for i, c := range []struct {
		s string
		e api.Errno
	}{
		{head, api.ErrForm},
		{head + f[1], api.ErrForm},
		{head + f[1] + f[2], api.ErrForm},
		{head + f[1] + f[2] + f[3] + "z", api.ErrForm},
		{head + f[1] + f[2] + f[3] + f[3], api.ErrForm},
		{head + f[1] + f[2] + f[3] + frame(""), api.ErrForm},
		{head + f[1] + f[2] + f[3][:507], api.ErrForm},
		{head + f[3] + f[1] + f[2], api.ErrForm},
		{head + f[1] + f[3] + f[2], api.ErrForm},
		{head + frame("") + f[1] + f[2] + f[3], api.ErrForm},
		{head + f[1] + f[2] + frame("") + f[3], api.ErrForm},
		{head + frame(x), api.ErrForm},
		{head + frame(x[:2000]) + f[3], api.ErrForm},
		{head + frame(x[:999]) + frame(x[999:1999]) + frame(x[1999:]), api.ErrForm},
		{head + frame(x[:1001]) + frame(x[1001:2001]) + frame(x[2001:]), api.ErrForm},
		{head + f[1] + f[2] + frame(x[2000:2499]), api.ErrForm},
		{head + f[1] + f[2] + frame(x[2000:]+"z"), api.ErrForm},
		{head + f[1] + f[2] + frame(x[2000:2250]) + frame(x[2250:]), api.ErrForm},
		{head + f[1] + f[2] + f[1], api.ErrForm},
		{head + "\x00\x01\x00\x01" + f[1], api.ErrForm},
		{head + f[1] + "\xff\xff\xff\xff" + f[2], api.ErrForm},
		{head + badSum + f[2] + f[3], api.ErrSum},
		{head + f[1] + badSum + f[3], api.ErrSum},
		{head + badSum, api.ErrSum},                 // and cut off
		{head + badSum + f[3], api.ErrSum},          // and then too short a one
		{head + "\x00\x00\x00\x00zzzz", api.ErrSum}, // and too short
		{head + frame(x[:999]) + badSum, api.ErrForm},
		{head + f[1] + f[2] + badSum, api.ErrSum},
		{head + f[1] + f[2] + f[3] + badSum, api.ErrForm}, // behind the end
	} {
		if failsUnpack(t, c.s, c.e); t.Failed() {
			t.Fatalf("case %d", i)
		}
	}
	failsUnpack(t, headOf("", 3, 1, 1, 1, 4000000)+frame(text(1000)), api.ErrForm)
	failsUnpack(t, headOf("", 3, 1, 1, 1, 0)+frame(""), api.ErrForm) // no Data, and a chunk
	failsUnpack(t, headOf("", 3, 1, 1, 1, 1000)+frame(text(1000))+frame(""), api.ErrForm)
}

// S4: of an encoding, no byte may be missing, and no bit may be another one.
func TestUnpackDamage(t *testing.T) {
	s := packs(t, base(3, text(1100)))
	for end := range len(s) {
		failsUnpack(t, s[:end], api.ErrForm)
	}
	heads := map[int]bool{}
	for at, f := 0, spelled(base(3, text(1100))); len(f) > 0; f = f[1:] {
		for i := range 4 {
			heads[at+i] = true
		}
		at += len(f[0])
	}
	for i := range len(s) {
		for bit := range 8 {
			b := []byte(s)
			b[i] ^= 1 << bit
			x, e := snap.Unpack(string(b))
			if !reflect.DeepEqual(x, api.Base{}) || e != api.ErrSum && !(heads[i] && e == api.ErrForm) {
				t.Fatalf("byte %d, bit %d: %v", i, bit, e)
			}
		}
	}
}

// P1, S1, S4: any bytes; what is accepted is what Pack writes.
func TestUnpackAnyBytes(t *testing.T) {
	r := rand.New(rand.NewSource(1))
	accepted := 0
	for range 200000 {
		l := []int{r.Intn(4), r.Intn(4) - 1, r.Intn(4)}
		for range max(0, l[2]+r.Intn(9)/8) {
			l = append(l, r.Intn(5)+len(l)-3)
		}
		size := max(0, r.Intn(12)-8) * r.Intn(700)
		s := headOf(strings.Repeat("\x80", r.Intn(20)/19), append(l, size)...)
		for left := size; left > 0 && r.Intn(30) > 0; left -= 1000 {
			s += frame(text(min(left, 1000) + r.Intn(20)/19))
		}
		s += text(r.Intn(20) / 19)
		if r.Intn(8) == 0 && s != "" {
			s = s[:r.Intn(len(s))]
		}
		b, e := snap.Unpack(s)
		if e != api.OK && !reflect.DeepEqual(b, api.Base{}) {
			t.Fatalf("%.60q: %v and a base", s, e)
		}
		if e == api.OK {
			accepted++
			if packs(t, b) != s {
				t.Fatalf("%.60q: accepted", s)
			}
		}
	}
	if accepted < 1000 {
		t.Errorf("only %d were accepted", accepted)
	}
}

// P3: what is handed in stays, what lies behind the end of the voters is not read, and what is answered is new.
func TestPackKeeps(t *testing.T) {
	v := []int{1, 2, 9, 1, 0}
	b := api.Base{Index: 3, Voters: v[:3], Data: text(1500)}
	s := packs(t, b)
	if !snap.Right(b) || !slices.Equal(v, []int{1, 2, 9, 1, 0}) || len(b.Voters) != 3 || b.Data != text(1500) {
		t.Error(v)
	}
	v[1] = 5
	x, _ := snap.Unpack(s)
	y, _ := snap.Unpack(s)
	x.Voters[0] = 7
	_ = append(x.Voters, 77)
	if z, _ := snap.Unpack(s); !slices.Equal(y.Voters, []int{1, 2, 9}) || !slices.Equal(z.Voters, []int{1, 2, 9}) {
		t.Error(y.Voters, z.Voters)
	}
}
