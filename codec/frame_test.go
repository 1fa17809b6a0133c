package codec_test

import (
	"hash/crc32"
	"math/rand"
	"strings"
	"testing"

	"kiosk/api"
	"kiosk/codec"
)

// shifted is the checksum by the words of B3, bit by bit.
func shifted(s string) uint32 {
	r := uint32(0xFFFFFFFF)
	for i := range len(s) {
		r ^= uint32(s[i])
		for range 8 {
			out := r & 1
			r >>= 1
			if out == 1 {
				r ^= 0x82F63B78
			}
		}
	}
	return ^r
}

func bytesOf(n uint32) string {
	return string([]byte{byte(n >> 24), byte(n >> 16), byte(n >> 8), byte(n)})
}

func frame(t *testing.T, s string) string {
	t.Helper()
	f, e := codec.Frame(s)
	if e != api.OK {
		t.Fatalf("Frame of %d bytes: %v", len(s), e)
	}
	return f
}

func failsFrame(t *testing.T, s string, want api.Errno) {
	t.Helper()
	if x, n, e := codec.Unframe(s); x != "" || n != 0 || e != want {
		t.Errorf("Unframe(%.20q) of %d bytes: %.20q %d %v, not %v", s, len(s), x, n, e, want)
	}
}

// B3: known checksums, one of each byte, and long ones.
func TestCrc(t *testing.T) {
	for s, want := range map[string]uint32{
		"":                          0,
		"123456789":                 0xE3069283,
		strings.Repeat("\x00", 32):  0x8A9136AA,
		strings.Repeat("\xff", 32):  0x62A8AB43,
		"\x00":                      0x527D5351,
		"a":                         0xC1D04330,
		strings.Repeat("\x00", 100): shifted(strings.Repeat("\x00", 100)),
	} {
		if c := codec.Crc(s); c != want {
			t.Errorf("Crc(%q): %08X, not %08X", s, c, want)
		}
	}
	table := crc32.MakeTable(crc32.Castagnoli)
	r := rand.New(rand.NewSource(3))
	for n := range 600 {
		b := make([]byte, n)
		r.Read(b)
		if n < 256 {
			b = append(b, byte(n))
		}
		if c := codec.Crc(string(b)); c != shifted(string(b)) || c != crc32.Checksum(b, table) {
			t.Errorf("Crc of %d bytes: %08X", len(b), c)
		}
	}
}

// B4, B5: what a frame is made of, and that it is taken off whatever follows.
func TestFrameBack(t *testing.T) {
	if f := frame(t, "a"); f[:4] != "\x00\x00\x00\x01" || len(f) != 9 || f[8:] != "a" {
		t.Errorf("%q", f)
	}
	for _, n := range []int{0, 1, 2, 255, 256, 257, 1000, api.MaxFrame - 1, api.MaxFrame} {
		s := strings.Repeat("ab\x00\xff\x80", n)[:n]
		f := frame(t, s)
		size := bytesOf(uint32(n))
		if f != size+bytesOf(shifted(size+s))+s {
			t.Errorf("Frame of %d bytes: %.20q", n, f)
		}
		for _, rest := range []string{"", "z", f, "\x00\x00"} {
			if x, k, e := codec.Unframe(f + rest); x != s || k != 8+n || e != api.OK {
				t.Errorf("Unframe of %d bytes: %d bytes, %d %v", n, len(x), k, e)
			}
		}
	}
}

// B4: a payload that is too long.
func TestFrameTooLong(t *testing.T) {
	for _, n := range []int{api.MaxFrame + 1, 2 * api.MaxFrame} {
		if f, e := codec.Frame(strings.Repeat("x", n)); f != "" || e != api.ErrLong {
			t.Errorf("Frame of %d bytes: %d bytes, %v", n, len(f), e)
		}
	}
}

// B4: which error comes first.
func TestUnframeErrors(t *testing.T) {
	f := frame(t, "a")
	long := strings.Repeat("x", api.MaxFrame+1)
	size := bytesOf(uint32(len(long)))
	for _, c := range []struct {
		s string
		e api.Errno
	}{
		{"", api.ErrForm},
		{"\x00", api.ErrForm},
		{"\xff\xff\xff", api.ErrForm},         // not even a length
		{"\x00\x01\x00\x01", api.ErrLong},     // too long, and too short
		{"\x00\x01\x00\x01abcd", api.ErrLong}, // too long, and cut off
		{size + bytesOf(shifted(size+long)) + long, api.ErrLong},
		{"\x80\x00\x00\x00", api.ErrLong},
		{"\xff\xff\xff\xff", api.ErrLong},
		{"\x01\x00\x00\x00", api.ErrLong},
		{"\x00\x01\x00\x00", api.ErrForm},
		{"\x00\x00\x00\x00", api.ErrForm},
		{"\x00\x00\x00\x00abc", api.ErrForm},
		{f[:8], api.ErrForm},
		{f[:4] + "zzzz", api.ErrForm}, // cut off, and of another sum
		{f[:8] + "b", api.ErrSum},
		{f[:4] + "zzzz" + "a", api.ErrSum},
		{"\x00\x00\x00\x00abcd", api.ErrSum},
		{"\x00\x00\x00\x00" + f[4:], api.ErrSum}, // another length
		{"\x00\x00\x00\x02" + f[4:] + "b", api.ErrSum},
		{f[:4] + bytesOf(shifted("a")) + "a", api.ErrSum}, // a sum without the length
	} {
		failsFrame(t, c.s, c.e)
	}
}

// B5: no bit of a frame may be another one, and no byte may be missing.
func TestFrameDamage(t *testing.T) {
	for _, s := range []string{"", "a", "some payload", strings.Repeat("\x00", 40)} {
		f := frame(t, s)
		for i := 4; i < len(f); i++ {
			for bit := range 8 {
				b := []byte(f)
				b[i] ^= 1 << bit
				failsFrame(t, string(b), api.ErrSum)
				failsFrame(t, string(b)+"z", api.ErrSum)
			}
		}
		for end := range len(f) {
			failsFrame(t, f[:end], api.ErrForm)
		}
	}
}

// P1, P2, B5: any bytes; what is accepted is a frame as Frame makes it.
func TestUnframeAnyBytes(t *testing.T) {
	r := rand.New(rand.NewSource(4))
	for range 100000 {
		b := make([]byte, r.Intn(24))
		for i := range b {
			b[i] = byte(r.Intn(256)) >> r.Intn(9)
		}
		if r.Intn(2) == 0 && len(b) > 3 {
			copy(b, "\x00\x00\x00")
		}
		if r.Intn(2) == 0 {
			b = append([]byte(frame(t, string(b[:len(b)/2]))), b[len(b)/2:]...)
		}
		s := string(b)
		x, n, e := codec.Unframe(s)
		if e != api.OK && (x != "" || n != 0) {
			t.Fatalf("%q: %q %d %v", s, x, n, e)
		}
		if e == api.OK && (n > len(s) || frame(t, x) != s[:n]) {
			t.Fatalf("%q: %q %d", s, x, n)
		}
	}
}
