package xml

import (
	"strconv"
	"strings"
	"unicode/utf8"
)

// named are the characters that have a reference by name: those that are escaped.
var named = [...]struct{ char, name string }{
	{"&", "amp"},
	{"<", "lt"},
	{">", "gt"},
	{`"`, "quot"},
	{"'", "apos"},
}

// reference reads what follows the & of a reference: what that denotes, and the rest.
func reference(s string) (string, string, bool) {
	name, rest, ok := strings.Cut(s, ";")
	if !ok {
		return "", "", false
	}
	for _, x := range named {
		if x.name == name {
			return x.char, rest, true
		}
	}
	digits, ok := strings.CutPrefix(name, "#")
	if !ok {
		return "", "", false
	}
	char, ok := numbered(digits)
	return char, rest, ok
}

// numbered is the character with a number: the digits are hexadecimal behind an x.
func numbered(digits string) (string, bool) {
	base, most := 10, 7
	if hex, ok := strings.CutPrefix(digits, "x"); ok {
		digits, base, most = hex, 16, 6
	}
	if len(digits) > most { // zeros ahead count
		return "", false
	}
	n, err := strconv.ParseUint(digits, base, 32)
	if err != nil || n == 0 || !utf8.ValidRune(rune(n)) {
		return "", false
	}
	return string(rune(n)), true
}

// denoted is s with what its references denote in their places.
func denoted(s string) (string, bool) {
	var b strings.Builder
	for {
		plain, rest, more := strings.Cut(s, "&")
		b.WriteString(plain)
		if !more {
			return b.String(), true
		}
		char, rest, ok := reference(rest)
		if !ok {
			return "", false
		}
		b.WriteString(char)
		s = rest
	}
}
