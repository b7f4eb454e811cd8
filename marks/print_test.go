package marks_test

import (
	"fmt"
	"math"
	"strings"
	"testing"

	"colophon/api"
	"colophon/marks"
	"colophon/utf"
)

// P17.2: Escape.

func escapes(t *testing.T, s, want string) {
	t.Helper()
	if got, err := marks.Escape(s); got != want || err != api.OK {
		t.Errorf("Escape(%s) is %s, %v; asked: %s", tell(s), tell(got), err, tell(want))
	}
}

func unescaped(t *testing.T, s string, asked api.Errno) {
	t.Helper()
	if got, err := marks.Escape(s); got != "" || err != asked {
		t.Errorf("Escape(%s) is %s, %v; asked: %v", tell(s), tell(got), err, asked)
	}
}

func TestEscape(t *testing.T) {
	escapes(t, "", "")
	for c, e := range map[string]string{"<": "&lt;", ">": "&gt;", "&": "&amp;", "\"": "&quot;"} {
		escapes(t, c, e)
		escapes(t, "a"+c, "a"+e)
		escapes(t, c+"\u20ac", e+"\u20ac")
		escapes(t, c+c+c, e+e+e)
		escapes(t, "\n"+c+" \U0001f600"+c+"\t", "\n"+e+" \U0001f600"+e+"\t")
		escapes(t, strings.Repeat(c, most), strings.Repeat(e, most))
	}
	escapes(t, "<p a=\"b\">&lt;</p>", "&lt;p a=&quot;b&quot;&gt;&amp;lt;&lt;/p&gt;")
	escapes(t, "&#65;", "&amp;#65;")
	escapes(t, "';/=- \r\n\t", "';/=- \r\n\t")
	// There is no bound.
	escapes(t, strings.Repeat("\u00e9", most), strings.Repeat("\u00e9", most))
}

func TestEscapeOfEachCodePoint(t *testing.T) {
	for c := range 1114112 {
		s, err := utf.Encode([]int{c})
		if err != api.OK {
			continue
		}
		got, err := marks.Escape(s)
		switch {
		case utf.Class(c) == api.ClassControl:
			if got != "" || err != api.ErrToken {
				t.Errorf("Escape(%q) is %q, %v", s, got, err)
			}
		case strings.Contains("<>&\"", s):
			if !strings.HasPrefix(got, "&") || !strings.HasSuffix(got, ";") || err != api.OK {
				t.Errorf("Escape(%q) is %q, %v", s, got, err)
			}
		case got != s || err != api.OK:
			t.Fatalf("Escape(%q) is %q, %v", s, got, err)
		}
	}
}

func TestEscapeOfWhatIsNoText(t *testing.T) {
	for c := range 160 {
		if utf.Class(c) != api.ClassControl {
			continue
		}
		s := string(rune(c))
		for _, x := range []string{s, "a" + s, s + "a", "<" + s, s + "&", s + s, "\u20ac" + s + "\u20ac", strings.Repeat("x", most) + s} {
			unescaped(t, x, api.ErrToken)
		}
		for _, b := range noUtf() {
			unescaped(t, s+b, api.ErrUtf)
			unescaped(t, b+s, api.ErrUtf)
			unescaped(t, s+"<\u00e9>"+b+s, api.ErrUtf)
		}
	}
	for _, b := range noUtf() {
		for _, x := range []string{b, "a" + b, b + "a", "<" + b, b + ">&", b + b, "\u20ac" + b + "\u20ac", strings.Repeat("x", most) + b} {
			unescaped(t, x, api.ErrUtf)
		}
	}
}

// P17.2: Print.

func TestPrint(t *testing.T) {
	writes(t, "")
	writes(t, "<p>", open("p"))
	writes(t, "<p/>", empty("p"))
	writes(t, "</p>", closing("p"))
	writes(t, "x", text("x"))
	writes(t, "<p a=\"1\" b=\"\" c-9=\" 2 \">", open("p", "a", "1", "b", "", "c-9", " 2 "))
	writes(t, "<p a=\"1\" b=\"\"/>", empty("p", "a", "1", "b", ""))
	writes(t, "<p b=\"1\" a=\"2\">", open("p", "b", "1", "a", "2"))
	writes(t, "<p x=\"&lt;&quot;&gt;&amp;\">a&lt;b&gt;&quot;&amp;<b/></p>", open("p", "x", "<\">&"), text("a<b>\"&"), empty("b"), closing("p"))
	writes(t, "</p><p>", closing("p"), open("p"))
	writes(t, " \n\t\r", text(" \n\t\r"))
	writes(t, "<p a=\" \n\t\r\">", open("p", "a", " \n\t\r"))
	writes(t, "&amp;lt;&amp;#65;", text("&lt;&#65;"))
	writes(t, "\u00e9\u20ac\U0010ffff\ufffd", text("\u00e9\u20ac\U0010ffff\ufffd"))
	writes(t, "a<b/>a<c/>a", text("a"), empty("b"), text("a"), empty("c"), text("a"))
	writes(t, "<abcdefghijklmnop abcdefghijklmnop=\"\"></z999999999999999>", open("abcdefghijklmnop", "abcdefghijklmnop", ""), closing("z999999999999999"))
	for n := range 17 {
		s, l := many(n)
		writes(t, "<p"+s+">", open("p", l...))
		writes(t, "<p"+s+"/>", empty("p", l...))
	}
	// nil and empty lists are one.
	for _, kind := range []int{api.TokOpen, api.TokEmpty, api.TokClose} {
		prints(t, "no attributes", []api.Token{{Kind: kind, Name: "p", Attrs: []api.Attr{}}})
	}
	if s, err := marks.Print([]api.Token{{Kind: api.TokText, Text: "x", Attrs: []api.Attr{}}}); s != "x" || err != api.OK {
		t.Errorf("a text with an empty list: %q, %v", s, err)
	}
	if s, err := marks.Print([]api.Token{}); s != "" || err != api.OK {
		t.Errorf("an empty list: %q, %v", s, err)
	}
}

func TestPrintDoesNotLookAtPlaces(t *testing.T) {
	for _, place := range []int{0, 1, -1, 99, most, most + 1, math.MaxInt, math.MinInt} {
		writes(t, "x<p a=\"1\"></p><b/>", at(place, text("x")), at(place, open("p", "a", "1")), at(place/2, closing("p")), at(-place, empty("b")))
		none(t, "a text with a name", at(place, api.Token{Kind: api.TokText, Name: "p", Text: "x"}))
	}
}

// bad are tokens that Scan never makes.
func bad() map[string]api.Token {
	all := map[string]api.Token{
		"nothing": {}, "a text and a tag": {Kind: api.TokText, Name: "p", Text: "x"},
		"an empty text": {Kind: api.TokText}, "a text without one": {Kind: api.TokText, Name: "p"},
		"a text with attributes":      {Kind: api.TokText, Text: "x", Attrs: given([]string{"a", ""})},
		"a text with a bad attribute": {Kind: api.TokText, Text: "x", Attrs: given([]string{"", ""})},
		"a closing tag with one":      {Kind: api.TokClose, Name: "p", Attrs: given([]string{"a", ""})},
		"a closing tag with many":     {Kind: api.TokClose, Name: "p", Attrs: make([]api.Attr, 3)},
	}
	for _, kind := range []int{0, 5, 6, -1, -4, 255, 256, 257, 260, 1 << 16, 1<<32 + 1, 1<<32 + 4, math.MaxInt, math.MinInt} {
		all[fmt.Sprint("kind ", kind)] = api.Token{Kind: kind, Name: "p"}
		all[fmt.Sprint("kind of a text", kind)] = api.Token{Kind: kind, Text: "p"}
		all[fmt.Sprint("kind of nothing", kind)] = api.Token{Kind: kind}
	}
	for _, kind := range []int{api.TokOpen, api.TokClose, api.TokEmpty} {
		all[fmt.Sprint("a tag with a text ", kind)] = api.Token{Kind: kind, Name: "p", Text: "x"}
		all[fmt.Sprint("a tag with a tag's text ", kind)] = api.Token{Kind: kind, Name: "p", Text: "<p>"}
		all[fmt.Sprint("a tag that is a text ", kind)] = api.Token{Kind: kind, Text: "x"}
		for i, n := range noNames() {
			all[fmt.Sprint("a name ", kind, i)] = api.Token{Kind: kind, Name: n}
			all[fmt.Sprint("an attribute's name ", kind, i)] = api.Token{Kind: kind, Name: "p", Attrs: given([]string{n, ""})}
			all[fmt.Sprint("a second one ", kind, i)] = api.Token{Kind: kind, Name: "p", Attrs: given([]string{"a", "", n, ""})}
		}
		for i, s := range noTexts() {
			all[fmt.Sprint("a value ", kind, i)] = api.Token{Kind: kind, Name: "p", Attrs: given([]string{"a", s})}
			all[fmt.Sprint("a last value ", kind, i)] = api.Token{Kind: kind, Name: "p", Attrs: given([]string{"a", "", "b", "<", "c", s})}
			all[fmt.Sprint("a tag with such a text ", kind, i)] = api.Token{Kind: kind, Name: "p", Text: s}
		}
		for _, n := range []int{17, 18, 100, 1000} {
			_, l := many(n)
			all[fmt.Sprint("many ", kind, n)] = api.Token{Kind: kind, Name: "p", Attrs: given(l)}
		}
		for n := 2; n <= 16; n++ {
			_, l := many(n)
			attrs := given(l)
			attrs[n-1].Name = attrs[(n-1)/2].Name
			all[fmt.Sprint("alike ", kind, n)] = api.Token{Kind: kind, Name: "p", Attrs: attrs}
		}
		all[fmt.Sprint("all alike ", kind)] = api.Token{Kind: kind, Name: "p", Attrs: given([]string{"a", "1", "a", "1"})}
	}
	for i, s := range noTexts() {
		all[fmt.Sprint("text ", i)] = text(s)
		all[fmt.Sprint("a text that begins so ", i)] = text(s + "<x>")
		all[fmt.Sprint("a text that ends so ", i)] = text("&\u20ac" + s)
	}
	return all
}

func noNames() []string {
	return []string{"", "P", "pP", "9", "-", "9a", "-a", "a_", "a.b", "abcdefghijklmnopq", strings.Repeat("a", 1000), "p ", " p", "p>", "p/", "/p", "p a=\"\"", "a=", "\u00e9", "a\u00e9", "a\xff", "\xff", "a\x00", "&lt;", "<", "a\"", "'", "a\n"}
}

func noTexts() []string {
	return append(noUtf(), "\x00", "\x01", "\x08", "\v", "\f", "\x0e", "\x1f", "\x7f", "\u0080", "\u0085", "\u009f", "a\x00", "\x1ba", "\u20ac\u0090")
}

func TestTokensThatAreNone(t *testing.T) {
	for what, x := range bad() {
		none(t, what, x)
		none(t, what, open("p"), x)
		none(t, what, x, open("p"))
		none(t, what, text("a"), empty("p"), x, closing("p"), text("b"))
	}
}

func TestTextsSideBySide(t *testing.T) {
	a, b := text("a"), text("b")
	none(t, "two texts", a, b)
	none(t, "two texts", a, a)
	none(t, "three texts", a, b, a)
	none(t, "behind a tag", open("p"), a, b)
	none(t, "ahead of a tag", a, b, open("p"))
	none(t, "in the middle", a, open("p"), a, closing("p"), a, b, empty("q"), a)
	none(t, "with places", at(0, a), at(1, b))
	none(t, "one of them empty", a, text(""))
	none(t, "one of them empty", text(""), a)
	for _, x := range []api.Token{open("p"), empty("p"), closing("p"), open("p", "a", "b")} {
		s, _ := marks.Print([]api.Token{x})
		writes(t, "a"+s+"b", a, x, b)
		writes(t, s+s, x, x)
	}
}

func TestPrintLengths(t *testing.T) {
	for _, x := range []struct {
		what   string
		with   int // bytes that one of them takes
		tokens func(n int) []api.Token
	}{
		{"a text", 1, func(n int) []api.Token { return []api.Token{text(strings.Repeat("x", n))} }},
		{"a text behind a tag", 1, func(n int) []api.Token { return []api.Token{open("p"), text(strings.Repeat("x", n-3))} }},
		{"a text ahead of a tag", 1, func(n int) []api.Token { return []api.Token{text(strings.Repeat("x", n-4)), closing("p")} }},
		{"a value", 1, func(n int) []api.Token { return []api.Token{open("p", "a", strings.Repeat("x", n-8))} }},
		{"two values", 1, func(n int) []api.Token {
			return []api.Token{empty("p", "a", strings.Repeat("x", n-1014), "b", strings.Repeat("y", 1000))}
		}},
		{"a text of <", 4, func(n int) []api.Token { return []api.Token{text(strings.Repeat("<", n/4) + strings.Repeat(" ", n%4))} }},
		{"a text of >", 4, func(n int) []api.Token { return []api.Token{text(strings.Repeat(" ", n%4) + strings.Repeat(">", n/4))} }},
		{"a text of &", 5, func(n int) []api.Token { return []api.Token{text(strings.Repeat("&", n/5) + strings.Repeat(" ", n%5))} }},
		{"a text of \"", 6, func(n int) []api.Token {
			return []api.Token{text(strings.Repeat("\"", n/6) + strings.Repeat(" ", n%6))}
		}},
		{"a value of \"", 6, func(n int) []api.Token {
			return []api.Token{open("p", "a", strings.Repeat("\"", (n-8)/6)+strings.Repeat(" ", (n-8)%6))}
		}},
		{"tags", 3, func(n int) []api.Token { return tags(n, 3, open("p")) }},
		{"closing tags", 4, func(n int) []api.Token { return tags(n, 4, closing("p")) }},
		{"empty tags", 4, func(n int) []api.Token { return tags(n, 4, empty("p")) }},
		{"tags and texts", 9, func(n int) []api.Token { return tags(n, 9, open("p"), text("ab"), closing("p")) }},
		{"tags with attributes", 9, func(n int) []api.Token { return tags(n, 9, empty("p", "a", "")) }},
	} {
		for _, n := range []int{most, most + 1} {
			l := x.tokens(n)
			asked := api.OK
			if n > most {
				asked = api.ErrLong
			}
			s, err := marks.Print(l)
			if err != asked || asked == api.OK && len(s) != n || asked != api.OK && s != "" {
				t.Errorf("%s of %d bytes: %d bytes, %v", x.what, n, len(s), err)
			}
			// What is none comes ahead of what is too long, wherever it stands.
			for what, b := range map[string]api.Token{"an empty text": text(""), "no UTF-8": empty("p", "a", "\xff")} {
				for _, wrong := range [][]api.Token{append(l, b), append([]api.Token{b}, l...)} {
					if s, err := marks.Print(wrong); s != "" || err != api.ErrToken {
						t.Errorf("%s of %d bytes and %s: %d bytes, %v", x.what, n, what, len(s), err)
					}
				}
			}
		}
	}
	long := text(strings.Repeat("x", most+1))
	unwritten(t, "a long text", api.ErrLong, long)
	none(t, "a long text and another", long, text("x"))
	none(t, "a long text and itself", long, long)
	none(t, "a long text that is none", text(long.Text+"\x01"))
	none(t, "a long text that is none", text(long.Text+"\xff"))
	none(t, "a long name", open(long.Text))
	none(t, "an attribute's long name", open("p", long.Text, ""))
	unwritten(t, "a long value", api.ErrLong, open("p", "a", long.Text))
	unwritten(t, "a value that is long as it is written", api.ErrLong, open("p", "a", strings.Repeat("\"", most/6)))
	unwritten(t, "values that are long together", api.ErrLong, open("p", "a", strings.Repeat("x", most/2), "b", strings.Repeat("x", most/2)))
}

// tags are so many rows of tokens as take n bytes, filled up by a longer name.
func tags(n, with int, l ...api.Token) []api.Token {
	var all []api.Token
	for range n/with - 1 {
		all = append(all, l...)
	}
	rest := n - (n/with-1)*with
	return append(all, open(strings.Repeat("a", rest-2)))
}
