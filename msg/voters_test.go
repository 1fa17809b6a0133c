package msg_test

import (
	"math"
	"math/rand"
	"slices"
	"strings"
	"testing"

	"kiosk/codec"
	"kiosk/msg"
)

// rows are numbers of which at most nine are read back.
func rows() [][]int {
	l := [][]int{
		nil, {}, {0}, {1}, {-1}, {10}, {1, 3}, {3, 1}, {2, 2, 2}, {1, 3, -7}, {math.MinInt, math.MaxInt, 0}, {most, most + 1, -most},
		{1, 2, 3, 4, 5, 6, 7, 8, 9}, {9, 8, 7, 6, 5, 4, 3, 2, 1}, make([]int, 8), make([]int, 9), slices.Repeat([]int{math.MinInt}, 9),
	}
	r := rand.New(rand.NewSource(3))
	for range 500 {
		row := make([]int, r.Intn(10))
		for i := range row {
			row[i] = int(r.Uint64() >> r.Intn(64))
		}
		l = append(l, row)
	}
	return l
}

func failsVoters(t *testing.T, s string) {
	t.Helper()
	if l, rest, ok := msg.ToVoters(s); len(l) != 0 || rest != "" || ok {
		t.Errorf("ToVoters(%.60q): %v %.60q %v", s, l, rest, ok)
	}
}

// M2: how many there are, and each of them, whatever they are and however many.
func TestVoters(t *testing.T) {
	for _, c := range []struct {
		l []int
		s string
	}{
		{nil, "\x00"},
		{[]int{}, "\x00"},
		{[]int{0}, "\x02\x00"},
		{[]int{1, 3}, "\x04\x02\x06"},
		{[]int{3, 1, 3, -7}, "\x08\x06\x02\x06\x0d"},
		{[]int{64, -65}, "\x04\x81\x00\x81\x01"},
		{[]int{math.MinInt}, "\x02\x81" + strings.Repeat("\xff", 8) + "\x7f"},
		{make([]int, 10), "\x14" + strings.Repeat("\x00", 10)},
		{make([]int, 64), "\x81\x00" + strings.Repeat("\x00", 64)},
		{make([]int, 100000), codec.Int(100000) + strings.Repeat("\x00", 100000)},
	} {
		if s := msg.Voters(c.l); s != c.s {
			t.Errorf("Voters of %d numbers: %.60q, not %.60q", len(c.l), s, c.s)
		}
	}
}

// M2, M3: they are read back, whatever follows; cut off they are none.
func TestToVoters(t *testing.T) {
	for _, row := range rows() {
		s := msg.Voters(row)
		if s != codec.Int(append([]int{len(row)}, row...)...) {
			t.Errorf("Voters(%v): %q", row, s)
		}
		for _, rest := range []string{"", "z", "\x00", "\x02", "\x80", "\xff\xff", s} {
			if l, left, ok := msg.ToVoters(s + rest); !slices.Equal(l, row) || left != rest || !ok {
				t.Errorf("ToVoters(%q): %v %q %v", s+rest, l, left, ok)
			}
		}
		for end := range len(s) {
			failsVoters(t, s[:end])
		}
		failsVoters(t, "\x80"+s)
	}
}

// M2: more than nine, fewer than none, and what is no number.
func TestToVotersWrong(t *testing.T) {
	for _, n := range []int{10, 11, 63, 64, 1000, 100000} {
		failsVoters(t, msg.Voters(make([]int, n)))
		failsVoters(t, msg.Voters(make([]int, n))+"z")
	}
	for _, n := range []int{-1, -2, -9, -most, math.MinInt, math.MinInt + 1, 10, most, 1 << 62, math.MaxInt} {
		failsVoters(t, codec.Int(n))
		failsVoters(t, codec.Int(n)+strings.Repeat("\x02", 20))
		failsVoters(t, codec.Int(n)+strings.Repeat("\x02", 5000000))
	}
	for _, s := range []string{
		"\x02", "\x04\x02", "\x12\x02\x02\x02\x02\x02\x02\x02\x02", // a number too few
		"\x02\x80", "\x02\x80\x02", "\x02\x81", "\x04\x02\x80\x02", "\x80\x00", "\x81", "\xff",
		"\x02\x82" + strings.Repeat("\x80", 8) + "\x00", // a number that is too great
		"\x02" + strings.Repeat("\xff", 20),
		"\x04\x02" + strings.Repeat("\x80", 1000),
	} {
		failsVoters(t, s)
		failsVoters(t, s[:len(s)-1])
	}
}

// M2, P1: any bytes; what is accepted is what Voters writes, of at most nine numbers, and else nothing is answered.
func TestToVotersAnyBytes(t *testing.T) {
	r := rand.New(rand.NewSource(4))
	accepted := 0
	for range 200000 {
		b := make([]byte, r.Intn(16))
		for i := range b {
			b[i] = byte(r.Intn(256)) >> r.Intn(9)
		}
		s := string(b)
		l, rest, ok := msg.ToVoters(s)
		if ok {
			accepted++
		}
		if ok && (len(l) > 9 || msg.Voters(l)+rest != s) || !ok && (len(l) > 0 || rest != "") {
			t.Fatalf("ToVoters(%q): %v %q %v", s, l, rest, ok)
		}
	}
	if accepted < 20000 || accepted > 180000 {
		t.Errorf("%d were accepted", accepted)
	}
}

// P3: a row that is handed in stays, what lies behind its end is not read, and what is answered is new.
func TestVotersKeep(t *testing.T) {
	row := []int{1, 2, 3, 4}
	s := msg.Voters(row[:2])
	if s != "\x04\x02\x04" || !slices.Equal(row, []int{1, 2, 3, 4}) {
		t.Errorf("%q %v", s, row)
	}
	x, _, _ := msg.ToVoters(s)
	y, _, _ := msg.ToVoters(s)
	x[0] = 7
	_ = append(x, 77)
	if z, _, _ := msg.ToVoters(s); !slices.Equal(y, []int{1, 2}) || !slices.Equal(z, []int{1, 2}) {
		t.Error(y, z)
	}
}
