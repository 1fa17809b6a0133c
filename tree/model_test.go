package tree_test

import (
	"math/rand"
	"regexp"
	"strings"
	"testing"

	"kiosk/api"
	"kiosk/tree"
	"kiosk/xml"
)

// openAt is the names of the elements that are open behind these tokens, all of them in order so far.
func openAt(l []xml.Token) []string {
	var names []string
	for _, t := range l {
		if t.Kind == xml.Open {
			names = append(names, t.Name)
		}
		if t.Kind == xml.Close {
			names = names[:len(names)-1]
		}
	}
	return names
}

// faultAt is the fault of token i, by the words of E1, where those ahead of it have none.
func faultAt(l []xml.Token, i int) api.Errno {
	names := openAt(l[:i])
	begun := false
	for _, t := range l[:i] {
		begun = begun || t.Kind == xml.Open
	}
	fault := true
	switch t := l[i]; t.Kind {
	case xml.Open:
		if len(names) >= 20 {
			return api.ErrDeep
		}
		fault = begun && len(names) == 0
	case xml.Close:
		fault = len(names) == 0 || names[len(names)-1] != t.Name
	case xml.Words:
		fault = len(names) == 0 && strings.Trim(t.Text, " \t\n\r") != ""
	}
	if fault {
		return api.ErrForm
	}
	return api.OK
}

// end is the place of the Close of the element that begins at place i.
func end(l []xml.Token, i int) int {
	k := i + 1
	for len(openAt(l[i:k])) > 0 {
		k++
	}
	return k - 1
}

// element is the one that begins at place i.
func element(l []xml.Token, i int) tree.Node {
	n := tree.Node{Name: l[i].Name, Attrs: l[i].Attrs}
	for k := i + 1; k < end(l, i); k++ {
		switch l[k].Kind {
		case xml.Words:
			n.Text += l[k].Text
		case xml.Open:
			n.Kids = append(n.Kids, element(l, k))
			k = end(l, k)
		}
	}
	return n
}

// model is Build by the words of the chapter: it goes through the list anew for each question.
func model(l []xml.Token) (tree.Node, api.Errno) {
	first := -1
	for i := range l {
		if e := faultAt(l, i); e != api.OK {
			return tree.Node{}, e
		}
		if first < 0 && l[i].Kind == xml.Open {
			first = i
		}
	}
	if first < 0 || len(openAt(l)) > 0 {
		return tree.Node{}, api.ErrForm
	}
	return element(l, first), api.OK
}

func pick[T any](r *rand.Rand, l ...T) T { return l[r.Intn(len(l))] }

// tokens draws a list that is often in order: odd is how many in 1000 tokens are not chosen to be so, and opens how many of 10 go deeper.
func tokens(r *rand.Rand, size, odd, opens int) []xml.Token {
	var l []xml.Token
	var names []string
	for range size {
		name := pick(r, "a", "b", "")
		switch x := r.Intn(10); {
		case r.Intn(1000) < odd:
			l = append(l, xml.Token{Kind: pick(r, 0, 1, 2, 3, 3, 4), Name: name, Text: pick(r, "", " ", "p")})
			return append(l, tokens(r, r.Intn(5), odd, opens)...)
		case len(names) == 0 && len(l) > 0 && l[len(l)-1].Kind == xml.Close, r.Intn(5) == 0:
			text := pick(r, "", " ", "\n\r\t")
			if len(names) > 0 {
				text = pick(r, "", "p", "q", " ", "\u00a0")
			}
			l = append(l, words(text))
		case x < opens || len(names) == 0:
			l, names = append(l, open(name, pick(r, []string{}, []string{"x", "1"}, []string{"y", "", "z", "2"})...)), append(names, name)
		default:
			l, names = append(l, closed(names[len(names)-1])), names[:len(names)-1]
		}
	}
	for ; len(names) > 0 && r.Intn(20) > 0; names = names[:len(names)-1] {
		l = append(l, closed(names[len(names)-1]))
	}
	return l
}

// E1: Build does what the words say, for tokens of all kinds.
func TestModel(t *testing.T) {
	r := rand.New(rand.NewSource(12))
	seen := map[api.Errno]int{}
	for range 60000 {
		l := tokens(r, r.Intn(pick(r, 6, 20, 60)), pick(r, 0, 20, 200), pick(r, 4, 6, 10))
		want, e := model(l)
		seen[e]++
		if n, got := tree.Build(l); got != e || !alike(n, want) {
			t.Fatalf("%v: %v %v, not %v %v", l, n, got, want, e)
		}
	}
	if seen[api.OK] < 5000 || seen[api.ErrForm] < 5000 || seen[api.ErrDeep] < 500 {
		t.Errorf("drawn one-sidedly: %v", seen)
	}
}

// E1: Parse is Read and then Build.
func TestParseModel(t *testing.T) {
	r := rand.New(rand.NewSource(13))
	for range 20000 {
		s := xml.Write(tokens(r, r.Intn(30), 20, 5))
		if r.Intn(4) == 0 {
			i := r.Intn(len(s) + 1)
			s = s[:i] + pick(r, "<", "&", ">", "</a>", "<a>") + s[i:]
		}
		l, e, _ := xml.Read(s)
		var want tree.Node
		if e == api.OK {
			want, e = model(l)
		}
		if n, got := tree.Parse(s); got != e || !alike(n, want) {
			t.Fatalf("%q: %v %v, not %v %v", s, n, got, want, e)
		}
	}
}

// drawn is a tree of at most this depth, with any names, texts and attributes.
func drawn(r *rand.Rand, depth int) tree.Node {
	n := node(pick(r, "a", "b", "", "<", "\xff", " "), pick(r, "", "", "p", " ", "&\x00"))
	n.Attrs = attrs(pick(r, []string{}, []string{"x", "1"}, []string{"", "", "", "2"})...)
	for depth > 1 && r.Intn(depth+1) > 0 && len(n.Kids) < 3 {
		n.Kids = append(n.Kids, drawn(r, depth-1-r.Intn(2)*r.Intn(depth-1)))
	}
	return n
}

// E4: Build of the Tokens of a tree that is not too deep is the tree. (And E2: Size is what its Tokens tell.)
func TestThereAndBack(t *testing.T) {
	r := rand.New(rand.NewSource(14))
	for range 3000 {
		n := drawn(r, pick(r, 2, 3, 5, 7))
		l := tree.Tokens(n)
		builds(t, n, l...)
		count, deepest := 0, 0
		for i, x := range l {
			if x.Kind == xml.Open {
				count, deepest = count+1, max(deepest, len(openAt(l[:i+1])))
			}
		}
		if a, b := tree.Size(n); a != count || b != deepest {
			t.Fatalf("%v: %d %d, not %d %d", n, a, b, count, deepest)
		}
	}
	for depth := 1; depth <= 25; depth++ {
		l := tree.Tokens(chain(depth))
		if depth <= 20 {
			builds(t, chain(depth), l...)
		} else {
			fails(t, api.ErrDeep, l...)
		}
	}
}

// E3, E4: Squeeze, and Squeeze of it again.
func TestSqueezeModel(t *testing.T) {
	r := rand.New(rand.NewSource(15))
	space := regexp.MustCompile(`[ \t\n\r]+`)
	for range 20000 {
		var b strings.Builder
		for range r.Intn(20) {
			b.WriteString(pick(r, " ", "\t", "\n", "\r", "  ", "a", "bc", "é", "\v", "\f", "\xff", "\xe2\x80", "\u2028"))
		}
		s := b.String()
		want := strings.Join(strings.FieldsFunc(string(space.ReplaceAll([]byte(s), []byte{' '})), func(r rune) bool { return r == ' ' }), " ")
		once := tree.Squeeze(s)
		if once != want {
			t.Fatalf("%q: %q, not %q", s, once, want)
		}
		if twice := tree.Squeeze(once); twice != once {
			t.Fatalf("%q: %q, then %q", s, once, twice)
		}
	}
}
