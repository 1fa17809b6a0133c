package shard_test

import (
	"hash/fnv"
	"math/big"
	"math/rand"
	"strings"
	"testing"

	"kiosk/shard"
)

// modelHash is the hash by the chapter's words, in numbers that have no end.
func modelHash(s string) uint32 {
	h, prime, all := big.NewInt(2166136261), big.NewInt(16777619), big.NewInt(1<<32)
	for i := range len(s) {
		h.Xor(h, big.NewInt(int64(s[i])))
		h.Mod(h.Mul(h, prime), all)
	}
	return uint32(h.Uint64())
}

// drawn is a string of fewer than n bytes, of any kind.
func drawn(r *rand.Rand, n int) string {
	b := make([]byte, r.Intn(n))
	r.Read(b)
	return string(b)
}

// holdsHash asks for the hash of s, and for its shard.
func holdsHash(t *testing.T, s string) {
	t.Helper()
	want := modelHash(s)
	f := fnv.New32a()
	f.Write([]byte(s))
	if f.Sum32() != want {
		t.Fatalf("%.100q: the model is not FNV-1a", s)
	}
	if got := shard.Hash(s); got != want {
		t.Errorf("Hash(%.100q): %d, not %d", s, got, want)
	}
	if got := shard.Of(s); got != int(want%8) {
		t.Errorf("Of(%.100q): %d, not %d", s, got, want%8)
	}
}

// H1: the chapter's examples.
func TestExamples(t *testing.T) {
	if a, b, c := shard.Hash(""), shard.Hash("a"), shard.Of("a"); a != 2166136261 || b != 3826002220 || c != 4 {
		t.Error(a, b, c)
	}
	if shard.Name("a b") {
		t.Error("a name has no space")
	}
}

// H1: a name has 1 to 60 bytes.
func TestNameLength(t *testing.T) {
	for n := range 200 {
		if got := shard.Name(strings.Repeat("x", n)); got != (n >= 1 && n <= 60) {
			t.Errorf("%d bytes: %v", n, got)
		}
	}
	if shard.Name(strings.Repeat("x", 256)) || shard.Name(strings.Repeat("x", 1<<16+1)) || shard.Name(strings.Repeat("x", 1<<20)) {
		t.Error("a long one")
	}
}

// H1: each byte of a name is one from 33 to 126, wherever it stands.
func TestNameBytes(t *testing.T) {
	for _, size := range []int{1, 2, 7, 59, 60, 61} {
		for at := range size {
			for b := range 256 {
				s := []byte(strings.Repeat("a", size))
				s[at] = byte(b)
				if got := shard.Name(string(s)); got != (size <= 60 && b >= 33 && b <= 126) {
					t.Errorf("%q: %v", s, got)
				}
			}
		}
	}
}

// H1: names as there are, and what is none; bytes count, not characters.
func TestNames(t *testing.T) {
	for s, want := range map[string]bool{
		"http://example.org/feed.xml?a=1&b=2#c": true, "!": true, "~": true, "!~": true, "a": true, "<>\"'&": true, "0": true,
		"": false, " ": false, " a": false, "a ": false, "a b": false, "a\n": false, "\x00": false, "a\x00": false, "\t": false,
		"\x1f": false, "\x7f": false, "\x80": false, "\xff": false, "é": false, "aé": false, "日本": false, "\u00a0": false, "\U0001F600": false,
		strings.Repeat("é", 30): false, strings.Repeat(" ", 60): false, strings.Repeat("!~", 30): true, strings.Repeat("!~", 30) + "!": false,
	} {
		if shard.Name(s) != want {
			t.Errorf("Name(%q): not %v", s, want)
		}
	}
}

// H1, P1: any bytes, against the words of the chapter.
func TestNameAny(t *testing.T) {
	r := rand.New(rand.NewSource(14))
	names := 0
	for range 50000 {
		s := []byte(drawn(r, 66))
		if r.Intn(4) > 0 { // most bytes may be there
			for i := range s {
				if r.Intn(200) > 0 {
					s[i] = 33 + s[i]%94
				}
			}
		}
		want := len(s) >= 1 && len(s) <= 60
		for _, b := range s {
			want = want && b >= 33 && b <= 126
		}
		if shard.Name(string(s)) != want {
			t.Fatalf("Name(%q): not %v", s, want)
		}
		if want {
			names++
		}
	}
	if names < 10000 {
		t.Error("too few names:", names)
	}
}

// H1: hashes that are known of old.
func TestHashKnown(t *testing.T) {
	for s, want := range map[string]uint32{
		"": 0x811c9dc5, "a": 0xe40c292c, "b": 0xe70c2de5, "c": 0xe60c2c52,
		"fo": 0x6222e842, "foo": 0xa9f37ed7, "foobar": 0xbf9cf968, "\x00": 0x050c5d1f,
	} {
		if got := shard.Hash(s); got != want {
			t.Errorf("Hash(%q): %#x, not %#x", s, got, want)
		}
		if got := shard.Of(s); got != int(want&7) {
			t.Errorf("Of(%q): %d", s, got)
		}
	}
}

// H1: all strings of one byte and of two, and one byte anywhere in a longer one.
func TestHashAll(t *testing.T) {
	for a := range 256 {
		holdsHash(t, string([]byte{byte(a)}))
		for b := range 256 {
			holdsHash(t, string([]byte{byte(a), byte(b)}))
		}
		for at := range 20 {
			s := []byte("http://example.org/a")
			s[at] = byte(a)
			holdsHash(t, string(s))
		}
	}
}

// H1, P1: any bytes, names or not; the order of the bytes counts.
func TestHashAny(t *testing.T) {
	r := rand.New(rand.NewSource(41))
	for range 20000 {
		holdsHash(t, drawn(r, 130))
	}
	for _, s := range []string{"é", "日本\xff", "\xff\xfe\xfd", strings.Repeat("\x00", 1000), strings.Repeat("xyz", 100000)} {
		holdsHash(t, s)
	}
	if shard.Hash("ab") == shard.Hash("ba") {
		t.Error("the order doesn't count")
	}
}

// H1: hashes of both halves of the 32 bits are there, and shards from 0 to 7 alone.
func TestOfRange(t *testing.T) {
	r := rand.New(rand.NewSource(8))
	var count [8]int
	high := 0
	for range 8000 {
		s := drawn(r, 40)
		n := shard.Of(s)
		if n < 0 || n > 7 {
			t.Fatalf("Of(%q): %d", s, n)
		}
		count[n]++
		if shard.Hash(s) >= 1<<31 {
			high++
		}
	}
	for n, c := range count {
		if c < 500 {
			t.Errorf("shard %d: %d of 8000", n, c)
		}
	}
	if high < 2000 || high > 6000 {
		t.Error("hashes with the highest bit:", high)
	}
}
