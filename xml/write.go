package xml

import "strings"

func Escape(s string) string {
	var b strings.Builder
	escape(&b, s)
	return b.String()
}

func escape(b *strings.Builder, s string) {
	for i := range len(s) {
		escapeByte(b, s[i])
	}
}

func escapeByte(b *strings.Builder, c byte) {
	for _, x := range named {
		if x.char[0] == c {
			b.WriteByte('&')
			b.WriteString(x.name)
			b.WriteByte(';')
			return
		}
	}
	b.WriteByte(c)
}

func Write(l []Token) string {
	var b strings.Builder
	for _, t := range l {
		switch t.Kind {
		case Open:
			writeOpen(&b, t)
		case Close:
			b.WriteString("</")
			b.WriteString(t.Name)
			b.WriteByte('>')
		case Words:
			escape(&b, t.Text)
		}
	}
	return b.String()
}

func writeOpen(b *strings.Builder, t Token) {
	b.WriteByte('<')
	b.WriteString(t.Name)
	for _, a := range t.Attrs {
		b.WriteByte(' ')
		b.WriteString(a.Name)
		b.WriteString(`="`)
		escape(b, a.Value)
		b.WriteByte('"')
	}
	b.WriteByte('>')
}
