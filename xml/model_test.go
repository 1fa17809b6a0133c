package xml_test

import (
	"math/rand"
	"regexp"
	"strconv"
	"strings"
	"testing"
	"unicode/utf8"

	"kiosk/api"
	"kiosk/xml"
)

// The model reads a document by regular expressions, which are the words of the chapter, over runes that are the bytes.
const (
	nameForm  = `[A-Za-z_:\x{80}-\x{ff}][A-Za-z_:\x{80}-\x{ff}0-9.\-]*`
	spaceForm = `[ \t\n\r]`
	attrForm  = spaceForm + `+(` + nameForm + `)` + spaceForm + `*=` + spaceForm + `*(?:"([^<"]*)"|'([^<']*)')`
)

var (
	silentForm = regexp.MustCompile(`^(?s:<!--.*?-->|<\?.*?\?>|<!DOCTYPE[^\[<>]*>)`)
	quotedForm = regexp.MustCompile(`^(?s:<!\[CDATA\[(.*?)\]\]>)`)
	closeForm  = regexp.MustCompile(`^</(` + nameForm + `)` + spaceForm + `*>`)
	openForm   = regexp.MustCompile(`^<(` + nameForm + `)((?:` + attrForm + `)*)` + spaceForm + `*(/?)>`)
	oneAttr    = regexp.MustCompile(attrForm)
	textForm   = regexp.MustCompile(`^[^<]+`)
	refForm    = regexp.MustCompile(`^&(?:(amp|lt|gt|quot|apos)|#([0-9]{1,7})|#x([0-9A-Fa-f]{1,6}));`)
)

func toRunes(s string) string {
	var b strings.Builder
	for i := range len(s) {
		b.WriteRune(rune(s[i]))
	}
	return b.String()
}

func toBytes(s string) string {
	var b []byte
	for _, c := range s {
		b = append(b, byte(c))
	}
	return string(b)
}

// modelText is what a text denotes, as bytes, or the place of the byte where it is wrong.
func modelText(s string) (string, int) {
	all := s
	out := ""
	for s != "" {
		if s[0] != '&' {
			c, n := utf8.DecodeRuneInString(s)
			out += string([]byte{byte(c)})
			s = s[n:]
			continue
		}
		m := refForm.FindStringSubmatch(s)
		at := utf8.RuneCountInString(all) - utf8.RuneCountInString(s)
		if m == nil {
			return "", at
		}
		if m[1] != "" {
			out += map[string]string{"amp": "&", "lt": "<", "gt": ">", "quot": `"`, "apos": "'"}[m[1]]
		} else {
			n, _ := strconv.ParseInt(m[2]+m[3], map[bool]int{false: 10, true: 16}[m[3] != ""], 64)
			if n < 1 || n > 0x10ffff || n >= 0xd800 && n <= 0xdfff {
				return "", at
			}
			out += string(rune(n))
		}
		s = s[len(m[0]):]
	}
	return out, -1
}

func modelAttrs(s string) ([]xml.Attr, bool) {
	var l []xml.Attr
	seen := map[string]bool{}
	for _, m := range oneAttr.FindAllStringSubmatch(s, -1) {
		value, at := modelText(m[2] + m[3])
		if at >= 0 || seen[m[1]] {
			return nil, false
		}
		seen[m[1]] = true
		l = append(l, xml.Attr{Name: toBytes(m[1]), Value: value})
	}
	return l, true
}

func modelRead(doc string) ([]xml.Token, api.Errno, int) {
	if len(doc) > 20000 {
		return nil, api.ErrLong, 0
	}
	s, at, text := toRunes(doc), 0, ""
	var l []xml.Token
	end := func() {
		if text != "" {
			l = append(l, words(text))
		}
		text = ""
	}
	for s != "" {
		var m []string
		take := func(form *regexp.Regexp) bool { m = form.FindStringSubmatch(s); return m != nil }
		switch {
		case take(silentForm):
		case take(quotedForm):
			text += toBytes(m[1])
		case take(closeForm):
			end()
			l = append(l, closed(toBytes(m[1])))
		case take(openForm):
			attrs, ok := modelAttrs(m[2])
			if !ok {
				return nil, api.ErrForm, at
			}
			end()
			l = append(l, xml.Token{Kind: xml.Open, Name: toBytes(m[1]), Attrs: attrs})
			if m[len(m)-1] == "/" {
				l = append(l, closed(toBytes(m[1])))
			}
		case take(textForm):
			words, wrong := modelText(m[0])
			if wrong >= 0 {
				return nil, api.ErrForm, at + wrong
			}
			text += words
		default:
			return nil, api.ErrForm, at
		}
		s = s[len(m[0]):]
		at += utf8.RuneCountInString(m[0])
	}
	end()
	return l, api.OK, 0
}

func pick(r *rand.Rand, l ...string) string { return l[r.Intn(len(l))] }

func some(r *rand.Rand, most int, f func() string) string {
	s := ""
	for range r.Intn(most + 1) {
		s += f()
	}
	return s
}

func randomSpace(r *rand.Rand, least int) string {
	return strings.Repeat(pick(r, " ", "\t", "\n", "\r"), least) + some(r, 1, func() string { return pick(r, " ", "\t", "\n", "\r") })
}

func randomName(r *rand.Rand) string {
	return pick(r, "a", "b", "_", ":", "\xff", "é") + some(r, 2, func() string { return pick(r, "a", "B", "0", "9", ".", "-", "_", ":", "\x80") })
}

func randomText(r *rand.Rand) string {
	return some(r, 4, func() string {
		return pick(r, "x", " ", "\n", ">", "]]>", "=", "\xff", "\x00", "é", "&amp;", "&lt;", "&gt;", "&quot;", "&apos;", "&#65;", "&#x3c;", "&#1114111;", "&#0000009;", "&#x00a0;", "/", "-->", ";", "#")
	})
}

func randomTag(r *rand.Rand) string {
	s := "<" + randomName(r)
	for range r.Intn(4) {
		q := pick(r, "'", `"`)
		s += randomSpace(r, 1) + randomName(r) + randomSpace(r, 0) + "=" + randomSpace(r, 0) + q + randomText(r) + q
	}
	return s + randomSpace(r, 0) + pick(r, ">", ">", "/>")
}

func randomPart(r *rand.Rand) string {
	switch r.Intn(9) {
	case 0:
		return "<!--" + pick(r, "", "x", "<a>", "&", "-", "--", "->") + "-->"
	case 1:
		return "<?" + pick(r, "", "x", "<a>", "&", "?", ">") + "?>"
	case 2:
		return "<!DOCTYPE" + pick(r, "", " x", "&", "]", "?", "--", "[", "<") + ">"
	case 3:
		return "<![CDATA[" + pick(r, "", "x", "<a>", "&amp;", "]", "]]", "\xff", "]>") + "]]>"
	case 4, 5:
		return "</" + randomName(r) + randomSpace(r, 0) + ">"
	case 6, 7:
		return randomTag(r)
	}
	return randomText(r)
}

// spoil puts bytes that mean something into a document, or takes some out of it.
func spoil(r *rand.Rand, s string) string {
	for range r.Intn(3) {
		i := r.Intn(len(s) + 1)
		j := min(len(s), i+r.Intn(3))
		s = s[:i] + pick(r, "", "", "<", ">", "&", ";", "'", `"`, "=", " ", "/", "!", "?", "-", "]", "[", "#", "x", "0", "&#", "&amp;", "<!", "\xff", "\x00") + s[j:]
	}
	return s
}

// X1: documents, and what is nearly one, are read as the model reads them. X3: what was read, and is written, is read alike.
func TestReadAsModel(t *testing.T) {
	right, wrong := 0, 0
	for seed := range int64(60000) {
		r := rand.New(rand.NewSource(seed))
		s := some(r, 6, func() string { return randomPart(r) })
		if seed%2 == 0 {
			s = spoil(r, s)
		}
		l, e, at := modelRead(s)
		x, ex, atx := xml.Read(s)
		if !alike(l, x) || e != ex || at != atx {
			t.Fatalf("%q: %v %v %d, not %v %v %d", s, x, ex, atx, l, e, at)
		}
		if e != api.OK {
			wrong++
			continue
		}
		right++
		reads(t, xml.Write(x), x...)
	}
	if right < 20000 || wrong < 5000 {
		t.Errorf("%d right, %d wrong", right, wrong)
	}
}

// X1, P1: any bytes at all.
func TestReadAnyBytes(t *testing.T) {
	pieces := strings.Split("< > & ; ' \" = / ! ? - -- ] [ # x a b 1 &# &#x &amp; <! <!-- --> <? ?> <![CDATA[ ]]> <!DOCTYPE </ /> <a <b a=' b=\" \xff \x00 é", " ")
	pieces = append(pieces, " ", "\n")
	for seed := range int64(60000) {
		r := rand.New(rand.NewSource(seed))
		s := some(r, 12, func() string { return pick(r, pieces...) })
		l, e, at := modelRead(s)
		x, ex, atx := xml.Read(s)
		if !alike(l, x) || e != ex || at != atx {
			t.Fatalf("%q: %v %v %d, not %v %v %d", s, x, ex, atx, l, e, at)
		}
	}
}

// X3: an escaped text is read as the text, by itself, in an element, and as a value.
func TestEscapedIsRead(t *testing.T) {
	r := rand.New(rand.NewSource(1))
	for range 5000 {
		b := make([]byte, 1+r.Intn(40))
		r.Read(b)
		s := string(b) + pick(r, "", "&", "<a>", "&amp;", "]]>", "\"'", "<!--")
		reads(t, xml.Escape(s), words(s))
		reads(t, xml.Write([]xml.Token{open("a", "b", s), words(s), closed("a")}), open("a", "b", s), words(s), closed("a"))
	}
	long := strings.Repeat("&", 4000)
	reads(t, xml.Escape(long), words(long)) // 20000 bytes
	reads(t, xml.Escape(""))
}
