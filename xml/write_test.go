package xml_test

import (
	"slices"
	"strings"
	"testing"

	"kiosk/xml"
)

func escapes(t *testing.T, s, want string) {
	t.Helper()
	if x := xml.Escape(s); x != want {
		t.Errorf("%q: %q, not %q", s, x, want)
	}
}

// X2: the five bytes are replaced, and no others.
func TestEscape(t *testing.T) {
	escapes(t, "", "")
	escapes(t, "a<b>&\"'é", "a&lt;b&gt;&amp;&quot;&apos;é")
	escapes(t, "&&", "&amp;&amp;")
	escapes(t, "&amp;", "&amp;amp;")
	escapes(t, "]]>", "]]&gt;")
	known := map[int]string{'&': "&amp;", '<': "&lt;", '>': "&gt;", '"': "&quot;", '\'': "&apos;"}
	for c := range 256 {
		s := string([]byte{byte(c)})
		want, ok := known[c]
		if !ok {
			want = s
		}
		escapes(t, s, want)
		escapes(t, "x"+s+s+"y", "x"+want+want+"y")
	}
	escapes(t, strings.Repeat("'", 100000), strings.Repeat("&apos;", 100000)) // longer than a document may be
}

func writes(t *testing.T, want string, l ...xml.Token) {
	t.Helper()
	if s := xml.Write(l); s != want {
		t.Errorf("%v: %q, not %q", l, s, want)
	}
}

// X2: what is written of a token of each kind.
func TestWrite(t *testing.T) {
	writes(t, "")
	writes(t, "<a>", open("a"))
	writes(t, "</a>", closed("a"))
	writes(t, "a&lt;b&gt;&amp;&quot;&apos;", words("a<b>&\"'"))
	writes(t, `<a b="1" c="" d="&lt;&gt;&amp;&quot;&apos; é">`, open("a", "b", "1", "c", "", "d", "<>&\"' é"))
	writes(t, "<a></a>", open("a"), closed("a")) // never in one
	writes(t, "x<a>y</a>z", words("x"), open("a"), words("y"), closed("a"), words("z"))
	writes(t, "xy", words("x"), words("y"))
	writes(t, "", words(""))
}

// X2: only what the kind of a token has is written.
func TestWriteOnlyTheKind(t *testing.T) {
	all := xml.Token{Name: "n", Attrs: attrs("a", "v"), Text: "t"}
	for kind, want := range map[int]string{xml.Open: `<n a="v">`, xml.Close: "</n>", xml.Words: "t", 0: "", 4: "", -1: "", 1 << 40: ""} {
		all.Kind = kind
		writes(t, want, all)
		writes(t, "x"+want+"y", words("x"), all, words("y"))
	}
}

// X2: names are written as they are, whatever they are, and attributes whose names are the same, too.
func TestWriteAnyNames(t *testing.T) {
	writes(t, "<>", open(""))
	writes(t, "</>", closed(""))
	writes(t, `<a <&>"b"="&lt;" <&>"b"="">`, open("a", `<&>"b"`, "<", `<&>"b"`, ""))
	writes(t, "</&'\xff>", closed("&'\xff"))
	writes(t, "<& =\"\">", open("&", "", ""))
}

// P3: Write changes none of its arguments, and reads nothing behind their ends.
func TestWriteLeavesArguments(t *testing.T) {
	l := []xml.Token{open("a", "b", "<", "c", ">"), words("&"), closed("a"), words("behind")}
	l[0].Attrs = append(l[0].Attrs, xml.Attr{Name: "behind"})
	l[0].Attrs = l[0].Attrs[:2]
	if s := xml.Write(l[:3]); s != `<a b="&lt;" c="&gt;">&amp;</a>` {
		t.Error(s)
	}
	want := []xml.Token{open("a", "b", "<", "c", ">"), words("&"), closed("a"), words("behind")}
	if !alike(l, want) || !slices.Equal(l[0].Attrs[:3], attrs("b", "<", "c", ">", "behind", "")) {
		t.Errorf("%v", l)
	}
}
