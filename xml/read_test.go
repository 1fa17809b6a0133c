package xml_test

import (
	"reflect"
	"slices"
	"strings"
	"testing"

	"kiosk/api"
	"kiosk/xml"
)

// attrs makes attributes of names and values in turn.
func attrs(l ...string) []xml.Attr {
	var out []xml.Attr
	for i := 0; i+1 < len(l); i += 2 {
		out = append(out, xml.Attr{Name: l[i], Value: l[i+1]})
	}
	return out
}

func open(name string, l ...string) xml.Token {
	return xml.Token{Kind: xml.Open, Name: name, Attrs: attrs(l...)}
}

func closed(name string) xml.Token { return xml.Token{Kind: xml.Close, Name: name} }

func words(s string) xml.Token { return xml.Token{Kind: xml.Words, Text: s} }

// alike holds two lists of tokens against each other: no attributes are no attributes, nil or not (P5).
func alike(a, b []xml.Token) bool {
	return slices.EqualFunc(a, b, func(x, y xml.Token) bool {
		return x.Kind == y.Kind && x.Name == y.Name && x.Text == y.Text && slices.Equal(x.Attrs, y.Attrs)
	})
}

// reads is for a document that has these tokens.
func reads(t *testing.T, s string, want ...xml.Token) {
	t.Helper()
	if l, e, at := xml.Read(s); e != api.OK || at != 0 || !alike(l, want) {
		t.Errorf("%.300q: %.300v %v %d, not %.300v", s, l, e, at, want)
	}
}

// faulty is for what is no document, from the byte at a place on.
func faulty(t *testing.T, s string, place int) {
	t.Helper()
	if l, e, at := xml.Read(s); e != api.ErrForm || at != place || len(l) != 0 {
		t.Errorf("%.300q: %.300v %v %d, not ErrForm at %d", s, l, e, at, place)
	}
}

// wrong is for a part that is wrong from its own first byte on: by itself, behind others of each kind, and ahead of others.
func wrong(t *testing.T, part string) {
	t.Helper()
	for _, s := range []string{"", "x", "&amp;", "<a>", "</b>", "<a/>", "<!---->", "<??>", "<!DOCTYPE>", "<![CDATA[]]>", "<a b='&gt;'>&#65;"} {
		faulty(t, s+part, len(s))
	}
}

// X1: what stands in a document is told in its order.
func TestReadInOrder(t *testing.T) {
	reads(t, "")
	reads(t, "<a>", open("a"))
	reads(t, "</a>", closed("a")) // that tags belong to each other is not asked here
	reads(t, "<a/>", open("a"), closed("a"))
	reads(t, "x", words("x"))
	reads(t, " ", words(" "))
	reads(t, "<a>1<b/>2</a>3<c/>", open("a"), words("1"), open("b"), closed("b"), words("2"), closed("a"), words("3"), open("c"), closed("c"))
	reads(t, `<a b="1&amp;2">x<!-- y --><![CDATA[<z>]]></a>`, open("a", "b", "1&2"), words("x<z>"), closed("a"))
	reads(t, "<?xml version=\"1.0\"?>\n<!DOCTYPE rss>\n<rss a='1' b=\"2\" c='3'></rss>\n", words("\n\n"), open("rss", "a", "1", "b", "2", "c", "3"), closed("rss"), words("\n"))
}

// X1: words are all text between two tags, and there are none where there is no text.
func TestReadWordsTogether(t *testing.T) {
	reads(t, "a<!--b-->c<?d?>e<!DOCTYPE f>g<![CDATA[h]]>i&lt;j&#107;", words("aceghi<jk"))
	reads(t, "<![CDATA[a]]><![CDATA[b]]>", words("ab"))
	reads(t, "<a><!--x--></a><?x?><b/><!DOCTYPE x></b><![CDATA[]]><c>", open("a"), closed("a"), open("b"), closed("b"), closed("b"), open("c"))
	reads(t, "<a>\r\n\t </a>", open("a"), words("\r\n\t "), closed("a"))
	reads(t, "<a>x<b>y</b></a>", open("a"), words("x"), open("b"), words("y"), closed("b"), closed("a")) // no text a second time
}

// X1: bytes that begin nothing stand for themselves.
func TestReadPlain(t *testing.T) {
	for _, s := range []string{">", "]]>", "-->", "?>", "/>", "\"'", "=", "a;b", "#", "\x00\x01\x7f\x80\xff", "é€😀\ufffd", "\xf0\x9f", "[", "x;amp;"} {
		reads(t, s, words(s))
		reads(t, "<a>"+s+"</a>", open("a"), words(s), closed("a"))
	}
	faulty(t, "a &", 2)
}

// X1: comments, instructions and the type of the document denote nothing, whatever stands in them.
func TestReadSilent(t *testing.T) {
	for _, s := range []string{
		"<!---->", "<!-- <a> & &x; </b -- ->  ]]> -->", "<!----->", "<!--<!---->", "<!-->-->", "<!--->-->", "<!--\xff\x00-->", "<!--a\n-->",
		"<??>", "<?x <a> & ? > -->?>", "<???>", "<?>?>", "<?<??>", "<?\x00\xff?>",
		"<!DOCTYPE>", "<!DOCTYPErss>", "<!DOCTYPE rss PUBLIC \"a'\" ] & &x; -- ?>", "<!DOCTYPE\n\xff>",
	} {
		reads(t, s)
		reads(t, "x"+s+"y", words("xy"))
		reads(t, s+s+"<a>"+s+"</a>", open("a"), closed("a"))
	}
	reads(t, "<!--a-->-->", words("-->")) // the first end counts
	reads(t, "<?a?>?>", words("?>"))
	reads(t, "<!DOCTYPE a>>[", words(">["))
	for _, s := range []string{"<!--", "<!-->", "<!--->", "<!-- --", "<!-- -- >", "<!- -->", "<!-a->", "<?", "<?>", "<? ?", "<?a>", "<!DOCTYPE", "<!DOCTYPE x", "<!DOCTYPE [>", "<!DOCTYPE a [ <!ENTITY b 'c'> ]>", "<!DOCTYPE <a>>", "<!DOCTYPE <>", "<!DOCTYPE a<", "<!doctype a>", "<!DOCTYP>", "<! DOCTYPE a>", "<!>", "<!", "<!ENTITY a 'b'>"} {
		wrong(t, s)
	}
	wrong(t, "<!DOCTYPE a<b>")
	faulty(t, "<!----><!--", 7)
}

// X1: what stands in CDATA is taken as it is.
func TestReadQuoted(t *testing.T) {
	for _, s := range []string{"a", "<a b='c'>&amp;&", "]", "]]", "]>", "] ]>", "<![CDATA[", "<!--", "\x00\xff\r\n"} {
		reads(t, "<![CDATA["+s+"]]>", words(s))
		reads(t, "(<![CDATA["+s+"]]>)", words("("+s+")"))
	}
	reads(t, "<![CDATA[]]>")
	reads(t, "<![CDATA[a]]>]]>", words("a]]>"))
	reads(t, "<![CDATA[a]]]]><![CDATA[>b]]>", words("a]]>b"))
	for _, s := range []string{"<![CDATA[", "<![CDATA[a", "<![CDATA[]>", "<![CDATA[a]]", "<![CDATA[a]] >", "<![CDATA]]>", "<![cdata[a]]>", "<! [CDATA[a]]>", "<![ CDATA[a]]>", "<![CDATA [a]]>", "<!["} {
		wrong(t, s)
	}
}

// X1: names, in tags of each kind and in attributes.
func TestReadNames(t *testing.T) {
	right := []string{"a", "z", "A", "Z", "_", ":", "\x80", "\xff", "é", "a0", "a9", "a.", "a-", "a_", "a:", "az", "aZ", "a\xff", "_-.:0", "rss:item-1.2", "€\ufffd", "::"}
	for _, n := range right {
		reads(t, "<"+n+">", open(n))
		reads(t, "<"+n+"/>", open(n), closed(n))
		reads(t, "</"+n+">", closed(n))
		reads(t, "<x "+n+"=''>", open("x", n, ""))
		reads(t, "<"+n+" "+n+"='"+n+"'/>", open(n, n, n), closed(n))
	}
	for c := range 256 {
		begins := strings.ContainsRune("ABCDEFGHIJKLMNOPQRSTUVWXYZabcdefghijklmnopqrstuvwxyz_:", rune(c)) || c >= 128
		if begins {
			reads(t, "<"+string([]byte{byte(c)})+">", open(string([]byte{byte(c)})))
		} else if c != '/' && c != '?' {
			wrong(t, "<"+string([]byte{byte(c)})+"a>")
			wrong(t, "</"+string([]byte{byte(c)})+"a>")
		}
		goesOn := begins || strings.ContainsRune("0123456789.-", rune(c))
		n := "a" + string([]byte{byte(c)}) + "b"
		if goesOn {
			reads(t, "<"+n+">", open(n))
		} else if c != '>' {
			wrong(t, "<"+n+">")
			wrong(t, "</"+n+">")
		}
		if !goesOn && !strings.ContainsRune(" \t\n\r", rune(c)) {
			wrong(t, "<x "+n+"=''>")
		}
	}
	for _, s := range []string{"<", "< a>", "<>", "</>", "</ a>", "<//a>", "<\n>", "<1a>", "<-a>", "<.a>", "<a", "<a ", "<a\x00>", "</a", "</", "</a b>", "</a b='c'>", "</a/>", "<<a>", "<a<b>", "</a<", "<a/b>", "<a/", "<a//>", "<a / >", "<a/ >"} {
		wrong(t, s)
	}
}

// X1: space, in all the places where there may be some.
func TestReadSpace(t *testing.T) {
	for _, s := range []string{" ", "\t", "\n", "\r", " \r\n\t  "} {
		reads(t, "<a"+s+">", open("a"))
		reads(t, "<a"+s+"/>", open("a"), closed("a"))
		reads(t, "</a"+s+">", closed("a"))
		reads(t, "<a"+s+"b"+s+"="+s+"'c'"+s+">", open("a", "b", "c"))
		reads(t, "<a"+s+"b='"+s+"'"+s+"d"+s+"=\"e\""+s+"/>", open("a", "b", s, "d", "e"), closed("a"))
	}
	for _, s := range []string{"\v", "\f", "\x00", "\x1f", "!"} { // no space, and of no name
		wrong(t, "<a"+s+">")
		wrong(t, "</a"+s+">")
		wrong(t, "<a"+s+"b='c'>")
		wrong(t, "<a b"+s+"='c'>")
		wrong(t, "<a b="+s+"'c'>")
		wrong(t, "<a b='c'"+s+">")
	}
	wrong(t, "<a\u00a0\x00>")
	reads(t, "<a\u00a0>", open("a\u00a0")) // bytes from 128 on: of the name
}

// X1: attributes.
func TestReadAttrs(t *testing.T) {
	reads(t, "<a b=''>", open("a", "b", ""))
	reads(t, `<a b="'" c='"'>`, open("a", "b", "'", "c", `"`))
	reads(t, `<a b=">" c="/>" d="]]>" e="-->" f="=">`, open("a", "b", ">", "c", "/>", "d", "]]>", "e", "-->", "f", "="))
	reads(t, "<a b=' x\t\r\n y '>", open("a", "b", " x\t\r\n y ")) // as it is
	reads(t, "<a b='\x00\xff'/>", open("a", "b", "\x00\xff"), closed("a"))
	reads(t, "<a b='&amp;&lt;&gt;&quot;&apos;&#65;&#x42;c' d=\"&quot;&#34;&apos;\">", open("a", "b", `&<>"'ABc`, "d", `""'`))
	reads(t, "<a b='1' B='2' bb='3' :b='4' b.='5'>", open("a", "b", "1", "B", "2", "bb", "3", ":b", "4", "b.", "5"))
	reads(t, "<a b='1'/><a b='1'/>", open("a", "b", "1"), closed("a"), open("a", "b", "1"), closed("a")) // each tag has its own
	reads(t, "<a z='1' y='2' x='3' z.='4'>", open("a", "z", "1", "y", "2", "x", "3", "z.", "4"))
	for _, s := range []string{
		"<a b>", "<a b >", "<a b/>", "<a b=>", "<a b= >", "<a b=/>", "<a b=c>", "<a b=1>", "<a =''>", "<a ='c'>", "<a 'c'>", "<a b'c'>", "<a b=='c'>", "<a b:='c' b:='d'>",
		"<a b='c>", "<a b=\"c>", "<a b='c\">", "<a b=\"c'>", "<a b=`c`>", "<a b=''", "<a b='' ", "<a b=''/", "<a b=", "<a b", "<a b='", "<a b='>'",
		"<ab='c'>", "<a b=''c=''>", "<a b=''c>", "<a b='' c>", "<a b=''''>", "<a b='''>", "<a b='' / >", "<a b='' '>",
		"<a b='<'>", "<a b='x<y>z'>", "<a b=\"</a>\">", "<a b='<!---->'>", "<a b='<![CDATA[x]]>'>",
		"<a b='&'>", "<a b='&x;'>", "<a b='&amp'>", "<a b='&amp' c=';'>", "<a b='x&amp;&#0;'>", "<a b='&#xD800;'>", "<a b='&amp;' c='&nbsp;'>", "<a b='&amp;'c='&nbsp;'>",
		"<a b='1' b='1'>", "<a b='1' c='2' b='3'>", "<a b='1' c='2' c='3'>", "<a b='1' b=\"2\"/>", "<a \xff='' \xff=''>",
	} {
		wrong(t, s)
	}
}

// X1: references, in words and in values alike.
func TestReadReferences(t *testing.T) {
	for s, want := range map[string]string{
		"&amp;": "&", "&lt;": "<", "&gt;": ">", "&quot;": `"`, "&apos;": "'",
		"&#1;": "\x01", "&#9;": "\t", "&#65;": "A", "&#0000065;": "A", "&#127;": "\x7f", "&#128;": "\u0080", "&#255;": "ÿ", "&#2047;": "\u07ff", "&#2048;": "\u0800",
		"&#55295;": "\ud7ff", "&#57344;": "\ue000", "&#65533;": "\ufffd", "&#65535;": "\uffff", "&#65536;": "\U00010000", "&#1114111;": "\U0010ffff",
		"&#x1;": "\x01", "&#x41;": "A", "&#x000041;": "A", "&#xe9;": "é", "&#xE9;": "é", "&#xD7FF;": "\ud7ff", "&#xe000;": "\ue000", "&#x10FFFF;": "\U0010ffff", "&#x10ffff;": "\U0010ffff", "&#xaBcD;": "\uabcd", "&#x0000a;": "\n",
	} {
		reads(t, s, words(want))
		reads(t, "x"+s+";"+s, words("x"+want+";"+want))
		reads(t, "<a b='"+s+"' c=\""+s+s+";\"/>", open("a", "b", want, "c", want+want+";"), closed("a"))
	}
	reads(t, "&amp;lt;&#38;gt;", words("&lt;&gt;")) // what is denoted is not read again
	reads(t, "&#60;a>", words("<a>"))
	for _, s := range []string{
		"&", "&;", "& amp;", "&amp", "&amp ;", "&AMP;", "&Amp;", "&amps;", "&am;", "&l;", "&nbsp;", "&copy;", "&&amp;", "&amp&",
		"&#", "&#;", "&#x;", "&#x", "&#65", "&#x41", "&# 65;", "&#65 ;", "&#+65;", "&#-1;", "&#6_5;", "&#6.5;", "&#1e2;", "&#0x41;", "&#0b1;", "&#A;", "&#X41;", "&#xx41;", "&#x 41;", "&#x+41;", "&#x-1;", "&#x4_1;", "&#xG;", "&#x0x4;",
		"&#0;", "&#0000000;", "&#x0;", "&#x000000;", "&#00000065;", "&#x0000041;", "&#11141110;", "&#55296;", "&#57343;", "&#xD800;", "&#xDFFF;", "&#xd800;", "&#1114112;", "&#9999999;", "&#x110000;", "&#xFFFFFF;", "&#4294967361;", "&#x100000041;", "&#18446744073709551681;",
		"&65;", "&x41;", "&#é;", "&é;", "&\xff;", "&#\x00;",
	} {
		wrong(t, s)
		wrong(t, s+"&amp;")
		wrong(t, s+"<a>;")
		wrong(t, s+"\x00;")
		wrong(t, "<a b='"+s+"'>")
		wrong(t, "<a b=\"x"+s+"&amp;\">")
	}
}

// X1: the first error counts, wherever the ones behind it are.
func TestReadFirstFault(t *testing.T) {
	faulty(t, "x&y<a", 1)
	faulty(t, "&<a", 0)
	faulty(t, "x<a&b>&", 1)
	faulty(t, "a&amp;b&c&d", 7)
	faulty(t, "<a/>&", 4)
	faulty(t, "<a>&amp;</a><b c='1' c='2'>&", 12)
	faulty(t, "<![CDATA[&]]>&", 13)
	faulty(t, "<!-- & <a b -->x<a b", 16)
	faulty(t, "&amp;<a b='&'>", 5)
	faulty(t, strings.Repeat("x", 19999)+"<", 19999)
	faulty(t, strings.Repeat("<a/>", 4999)+"&#0;", 19996)
}

// X1: 20000 bytes are not too long, one more is, whatever they are.
func TestReadLong(t *testing.T) {
	reads(t, strings.Repeat("x", 20000), words(strings.Repeat("x", 20000)))
	reads(t, "<"+strings.Repeat("x", 19997)+"/>", open(strings.Repeat("x", 19997)), closed(strings.Repeat("x", 19997)))
	if l, e, _ := xml.Read(strings.Repeat("<a/>", 5000)); e != api.OK || len(l) != 10000 {
		t.Error(e, len(l))
	}
	var b strings.Builder
	for i := range 1000 {
		b.WriteString(" a" + strings.Repeat("b", i%10) + "." + strings.Repeat("-", i/100) + string(rune('0'+i/10%10)) + "=''")
	}
	if l, e, _ := xml.Read("<a" + b.String() + ">"); e != api.OK || len(l) != 1 || len(l[0].Attrs) != 1000 {
		t.Error(e, len(l))
	}
	for _, s := range []string{strings.Repeat("x", 20001), strings.Repeat("<", 20001), strings.Repeat("&", 20001), "<" + strings.Repeat("x", 19998) + "/>", strings.Repeat("\xff", 1<<20), strings.Repeat(" ", 20000) + "<"} {
		if l, e, at := xml.Read(s); e != api.ErrLong || at != 0 || len(l) != 0 {
			t.Errorf("%d bytes of %.5q: %v %d", len(s), s, e, at)
		}
	}
}

// X1, P1: many bytes that open something end, too.
func TestReadMuch(t *testing.T) {
	for _, s := range []string{"<", "<a ", "<a b='", "<!--", "<!-", "<?", "<![CDATA[", "<!DOCTYPE ", "&", "&#x", "</", "<a b='&"} {
		faulty(t, strings.Repeat(s, 20000/len(s)), 0)
	}
	for _, s := range []string{"<a/>", "<!---->", "<??>", "<![CDATA[]]>", "<!DOCTYPE>", "&lt;", "</a>", "<a b='&lt;'>"} {
		if _, e, at := xml.Read(strings.Repeat(s, 20000/len(s))); e != api.OK || at != 0 {
			t.Error(s, e, at)
		}
	}
}

// P3, P4: what Read answers is new each time, and no two lists of it share memory.
func TestReadAnswersAnew(t *testing.T) {
	s := "<a b='1' c='2'><a b='1' c='2'/>x</a>"
	first, _, _ := xml.Read(s)
	want, _, _ := xml.Read(s)
	_ = append(first[:0], closed("z"), closed("z"), closed("z"), closed("z"), closed("z"))
	first, _, _ = xml.Read(s)
	if !reflect.DeepEqual(first, want) {
		t.Errorf("%v", first)
	}
	other := first[1].Attrs
	_ = append(first[0].Attrs, xml.Attr{Name: "z"}, xml.Attr{Name: "z"}, xml.Attr{Name: "z"})
	first[0].Attrs[0], first[0].Attrs[1] = xml.Attr{}, xml.Attr{}
	if !slices.Equal(other, attrs("b", "1", "c", "2")) {
		t.Errorf("%q", other)
	}
	reads(t, s, want...)
}
