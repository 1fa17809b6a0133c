package codec_test

import (
	"math"
	"math/big"
	"math/rand"
	"slices"
	"strings"
	"testing"

	"kiosk/codec"
)

// spelled is the encoding of n by the words of B1, in numbers of any size.
func spelled(n int) string {
	u := new(big.Int).Lsh(big.NewInt(int64(n)), 1)
	if n < 0 {
		u.Neg(u).Sub(u, big.NewInt(1))
	}
	groups := []byte{byte(new(big.Int).And(u, big.NewInt(127)).Int64())}
	for u.Rsh(u, 7); u.Sign() > 0; u.Rsh(u, 7) {
		groups = append(groups, byte(new(big.Int).And(u, big.NewInt(127)).Int64())+128)
	}
	slices.Reverse(groups)
	return string(groups)
}

// numbers are those on both sides of each edge of length, and some between.
func numbers() []int {
	l := []int{0, -1, 1, -2, 2, -300, 300, math.MaxInt, math.MaxInt - 1, math.MinInt, math.MinInt + 1}
	for k := range 63 {
		n := 1 << k
		l = append(l, n-1, n, n+1, -n+1, -n, -n-1)
	}
	r := rand.New(rand.NewSource(1))
	for range 2000 {
		l = append(l, int(r.Uint64()>>r.Intn(64)), -int(r.Uint64()>>r.Intn(64)))
	}
	return l
}

func failsInt(t *testing.T, s string) {
	t.Helper()
	if n, rest, ok := codec.ToInt(s); n != 0 || rest != "" || ok {
		t.Errorf("ToInt(%q): %d %q %v", s, n, rest, ok)
	}
}

func failsText(t *testing.T, s string) {
	t.Helper()
	if x, rest, ok := codec.ToText(s); x != "" || rest != "" || ok {
		t.Errorf("ToText(%q): %q %q %v", s, x, rest, ok)
	}
}

// B1: the bytes that the document shows, and the longest ones.
func TestIntWrites(t *testing.T) {
	for _, c := range []struct {
		l []int
		s string
	}{
		{nil, ""},
		{[]int{0}, "\x00"},
		{[]int{0, -1, 1, 64, -300}, "\x00\x01\x02\x81\x00\x84\x57"},
		{[]int{63, -64}, "\x7e\x7f"},
		{[]int{64, -65}, "\x81\x00\x81\x01"},
		{[]int{math.MaxInt}, "\x81" + strings.Repeat("\xff", 8) + "\x7e"},
		{[]int{math.MinInt}, "\x81" + strings.Repeat("\xff", 8) + "\x7f"},
	} {
		if s := codec.Int(c.l...); s != c.s {
			t.Errorf("Int(%v): %q", c.l, s)
		}
	}
}

// B1, B5: every number is written as spelled, and read back whatever follows.
func TestIntBack(t *testing.T) {
	l := numbers()
	var all strings.Builder
	for _, n := range l {
		s := codec.Int(n)
		if s != spelled(n) {
			t.Fatalf("Int(%d): %q, not %q", n, s, spelled(n))
		}
		all.WriteString(s)
		for _, rest := range []string{"", "z", "\x00", "\x80", "\xff\xff"} {
			if m, left, ok := codec.ToInt(s + rest); m != n || left != rest || !ok {
				t.Errorf("ToInt(%q): %d %q %v", s+rest, m, left, ok)
			}
		}
		for end := range len(s) {
			failsInt(t, s[:end])
		}
		failsInt(t, "\x80"+s)
	}
	if codec.Int(l...) != all.String() {
		t.Error("many numbers are not the numbers one by one")
	}
}

// B1, B5: of all short strings, those are read that begin with what Int returns, and no others.
func TestIntReadsNoOthers(t *testing.T) {
	want := map[string]int{}
	for n := -8192; n < 8192; n++ {
		want[codec.Int(n)] = n
	}
	if len(want) != 16384 {
		t.Error("two numbers have one encoding")
	}
	for u := range 1 << 16 {
		s := string([]byte{byte(u >> 8), byte(u)})
		one, isOne := want[s[:1]]
		two, isTwo := want[s]
		n, rest, ok := codec.ToInt(s)
		switch {
		case isOne && (n != one || rest != s[1:] || !ok):
			t.Errorf("%q: %d %q %v", s, n, rest, ok)
		case isTwo && (n != two || rest != "" || !ok):
			t.Errorf("%q: %d %q %v", s, n, rest, ok)
		case !isOne && !isTwo && (n != 0 || rest != "" || ok):
			t.Errorf("%q: %d %q %v", s, n, rest, ok)
		}
	}
}

// B1: numbers that an int can't hold, whatever their length.
func TestIntTooGreat(t *testing.T) {
	for _, s := range []string{
		"\x82" + strings.Repeat("\x80", 8) + "\x00",
		"\x83" + strings.Repeat("\xff", 8) + "\x7f",
		"\x81" + strings.Repeat("\x80", 9) + "\x00",
		"\xff" + strings.Repeat("\xff", 8) + "\x7f",
		strings.Repeat("\x81", 10) + "\x01",
		strings.Repeat("\x81", 100000) + "\x01",
		strings.Repeat("\xff", 100000),
		strings.Repeat("\x80", 9) + "\x01",
	} {
		failsInt(t, s)
	}
}

// B2: the length of a text is one of bytes.
func TestTextWrites(t *testing.T) {
	long := strings.Repeat("x", 70)
	for _, c := range []struct {
		l []string
		s string
	}{
		{nil, ""},
		{[]string{""}, "\x00"},
		{[]string{"ab"}, "\x04ab"},
		{[]string{"ab", "", long, "\x00\x80\xff"}, "\x04ab\x00\x81\x0c" + long + "\x06\x00\x80\xff"},
		{[]string{"\u00e4"}, "\x04\xc3\xa4"},
	} {
		if s := codec.Text(c.l...); s != c.s {
			t.Errorf("Text(%q): %q", c.l, s)
		}
	}
}

// B2, B5: every text is read back whatever follows, and none that is cut off.
func TestTextBack(t *testing.T) {
	for _, n := range []int{0, 1, 2, 63, 64, 65, 8191, 8192, 70000} {
		x := strings.Repeat("\x80a\x00", n)[:n]
		s := codec.Text(x)
		if s != codec.Int(n)+x {
			t.Errorf("Text of %d bytes", n)
		}
		for _, rest := range []string{"", "z", "\x00", "\xff"} {
			if y, left, ok := codec.ToText(s + rest); y != x || left != rest || !ok {
				t.Errorf("ToText of %d bytes ahead of %q: %d bytes, %q %v", n, rest, len(y), left, ok)
			}
		}
		failsText(t, s[:len(s)-1])
		failsText(t, "\x80"+s)
	}
}

// B2: lengths that are negative, too great or no numbers.
func TestTextWrongLength(t *testing.T) {
	for _, s := range []string{
		"", "\x02", "\x04a", "\x01", "\x01a", "\x03abc", "\x80\x00", "\x80\x02a", "\x81", "\x81\x00a", "\xff\xff\xff\xff\x7ea",
		codec.Int(math.MaxInt) + "a", codec.Int(math.MinInt) + "a", codec.Int(-1) + "a",
		"\x82" + strings.Repeat("\x80", 8) + "\x02a", // 1, had two bits not been lost
	} {
		failsText(t, s)
	}
}

// B2: of all bytes, 0 and 1 are bools.
func TestBool(t *testing.T) {
	if codec.Bool(false) != "\x00" || codec.Bool(true) != "\x01" {
		t.Error("Bool")
	}
	for c := range 256 {
		for _, rest := range []string{"", "z", "\x01"} {
			b, left, ok := codec.ToBool(string([]byte{byte(c)}) + rest)
			if ok != (c < 2) || b != (c == 1) || ok && left != rest || !ok && left != "" {
				t.Errorf("ToBool of byte %d: %v %q %v", c, b, left, ok)
			}
		}
	}
	if b, rest, ok := codec.ToBool(""); b || rest != "" || ok {
		t.Error("ToBool of nothing")
	}
}

// B5: what one reader leaves is what the next one reads.
func TestMixedBack(t *testing.T) {
	s := codec.Int(7, -9000) + codec.Text("ab", "") + codec.Bool(true) + codec.Int(math.MinInt)
	a, s, ok1 := codec.ToInt(s)
	b, s, ok2 := codec.ToInt(s)
	c, s, ok3 := codec.ToText(s)
	d, s, ok4 := codec.ToText(s)
	e, s, ok5 := codec.ToBool(s)
	f, s, ok6 := codec.ToInt(s)
	if a != 7 || b != -9000 || c != "ab" || d != "" || !e || f != math.MinInt || s != "" {
		t.Error(a, b, c, d, e, f, s)
	}
	if !ok1 || !ok2 || !ok3 || !ok4 || !ok5 || !ok6 {
		t.Error("not read")
	}
}

// P3: a row that is handed in stays, and what lies beyond its length is not read.
func TestArgumentsStay(t *testing.T) {
	n := []int{1, 2, 3, 4}
	if codec.Int(n[:2]...) != "\x02\x04" || !slices.Equal(n, []int{1, 2, 3, 4}) {
		t.Error(n)
	}
	x := []string{"a", "b", "c"}
	if codec.Text(x[:1]...) != "\x02a" || !slices.Equal(x, []string{"a", "b", "c"}) {
		t.Error(x)
	}
}

// P1, P2, B5: readers take any bytes; what they accept is what is written, and else they return nothing.
func TestAnyBytes(t *testing.T) {
	r := rand.New(rand.NewSource(2))
	for range 200000 {
		b := make([]byte, r.Intn(14))
		for i := range b {
			b[i] = byte(r.Intn(256)) >> r.Intn(8)
		}
		b = append(b, strings.Repeat("\xff", r.Intn(2))...)
		s := string(b)
		if n, rest, ok := codec.ToInt(s); ok && codec.Int(n)+rest != s || !ok && (n != 0 || rest != "") {
			t.Fatalf("ToInt(%q)", s)
		}
		if x, rest, ok := codec.ToText(s); ok && codec.Text(x)+rest != s || !ok && (x != "" || rest != "") {
			t.Fatalf("ToText(%q)", s)
		}
		if y, rest, ok := codec.ToBool(s); ok && codec.Bool(y)+rest != s || !ok && (y || rest != "") {
			t.Fatalf("ToBool(%q)", s)
		}
	}
}
