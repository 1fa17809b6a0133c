package feed

import (
	"strings"

	"kiosk/api"
	"kiosk/xml"
)

// RSS and Atom write documents.
func RSS(title string, l []api.Item) string {
	var b strings.Builder
	b.WriteString(`<rss version="2.0"><channel><title>` + xml.Escape(title) + `</title>`)
	for _, x := range l {
		b.WriteString(`<item><guid>` + xml.Escape(x.ID) +
			`</guid><title>` + xml.Escape(x.Title) +
			`</title><link>` + xml.Escape(x.Link) + `</link></item>`)
	}
	b.WriteString(`</channel></rss>`)
	return b.String()
}

func Atom(title string, l []api.Item) string {
	var b strings.Builder
	b.WriteString(`<feed xmlns="http://www.w3.org/2005/Atom"><title>` + xml.Escape(title) + `</title>`)
	for _, x := range l {
		b.WriteString(`<entry><id>` + xml.Escape(x.ID) +
			`</id><title>` + xml.Escape(x.Title) +
			`</title><link href="` + xml.Escape(x.Link) + `"/></entry>`)
	}
	b.WriteString(`</feed>`)
	return b.String()
}
