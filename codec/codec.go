// Package codec: bytes: layer 1: see shared/doc/01-codec.md.
package codec

import (
	"math"
	"math/bits"
	"strings"
)

// more is added to each byte of a number but its last: another one follows.
const more = 0x80

// output is what has been encoded so far.
type output struct {
	b strings.Builder
}

func (o *output) number(n int) {
	u := zigzag(n)
	last := (bits.Len64(u|1) - 1) / 7 // 0 has a group too
	for shift := last * 7; shift > 0; shift -= 7 {
		o.b.WriteByte(byte(u>>shift) | more)
	}
	o.b.WriteByte(byte(u) &^ more)
}

func (o *output) text(s string) {
	o.number(len(s))
	o.b.WriteString(s)
}

func each[T any](l []T, encode func(T)) {
	for _, x := range l {
		encode(x)
	}
}

// zigzag and its inverse keep the numbers near 0 short: n>>63 is all ones below 0.
func zigzag(n int) uint64 { return uint64(n)<<1 ^ uint64(n>>63) }

func unzigzag(u uint64) int { return int(u>>1) ^ -int(u&1) }

func Int(l ...int) string {
	var o output
	each(l, o.number)
	return o.b.String()
}

func ToInt(s string) (int, string, bool) {
	if strings.HasPrefix(s, "\x80") { // a first group of zeros is one byte too many
		return 0, "", false
	}
	var u uint64
	for i := range len(s) {
		if u > math.MaxUint64>>7 { // the next group would push bits out
			break
		}
		u = u<<7 | uint64(s[i]&^more)
		if s[i] < more {
			return unzigzag(u), s[i+1:], true
		}
	}
	return 0, "", false
}

func Text(l ...string) string {
	var o output
	each(l, o.text)
	return o.b.String()
}

func ToText(s string) (string, string, bool) {
	n, rest, ok := ToInt(s)
	if !ok || n < 0 || n > len(rest) {
		return "", "", false
	}
	return rest[:n], rest[n:], true
}

func Bool(b bool) string {
	if b {
		return "\x01"
	}
	return "\x00"
}

func ToBool(s string) (bool, string, bool) {
	if s == "" || s[0] > 1 {
		return false, "", false
	}
	return s[0] == 1, s[1:], true
}
