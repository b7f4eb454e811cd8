package tree_test

import (
	"fmt"
	"slices"
	"strings"
	"testing"

	"colophon/api"
	"colophon/tree"
)

// P18.3: words.

func raw(name string, kids ...api.Node) api.Node { return api.Node{Name: name, Kids: kids} }

func TestWords(t *testing.T) {
	words(t, api.Node{})
	words(t, doc())
	words(t, doc(para()))
	words(t, doc(para(text("a "), el("b", "", text("b")))), "a", "b")
	words(t, doc(para(text("ta"), el("b", "", text("ble")), text(" x"))), "table", "x")
	words(t, doc(para(text("a")), para(text("b"))), "a", "b")
	words(t, doc(el("h1", "", text("a b")), el("h2", "", text(" c")), el("h3", "", text("d ")), para(text(" e "))), "a", "b", "c", "d", "e")
	words(t, doc(el("table", "", el("row", "", el("cell", "", text("a")), el("cell", "", text("b"))), el("row", "", el("cell", "", text("c d"))))), "a", "b", "c", "d")
	words(t, doc(el("sheet", "", text("p { }")), el("break", ""), para(text("x"))), "x")
	words(t, doc(para(text(" "), el("b", "", text("\n")), text("\t"))))
	words(t, doc(para(text("a"), el("b", "", text(" ")), text("b"))), "a", "b")
	words(t, doc(para(text("a "), el("b", "", text(" ")), text(" b"))), "a", "b")
	words(t, doc(para(text("a"), el("b", ""), text("b"))), "ab")
	words(t, doc(para(text("a"), el("b", "", el("i", "", el("span", "", el("a", "to=x", text("b"))))), text("c"))), "abc")
	words(t, doc(para(text("a b"), el("b", "", text("c d")), text("e f"))), "a", "bc", "de", "f")
	words(t, doc(para(text("a b a b"))), "a", "b", "a", "b")
}

func TestWhatIsABlock(t *testing.T) {
	for _, name := range []string{"h1", "h2", "h3", "p", "cell"} {
		words(t, raw(name, text("a b")), "a", "b")
		words(t, raw("q", raw(name, text("a b"))), "a", "b")
		words(t, raw(name))
		words(t, raw("", raw(name, text("a"))), "a")
	}
	for _, name := range []string{"", "doc", "sheet", "table", "row", "break", "b", "i", "span", "a", "q", "h4", "h", "h0", "P", "H1", "p ", "pp", "cells", "cel", "h11"} {
		words(t, raw(name, text("a b")))
		words(t, raw("doc", raw(name, text("a b")), raw("p", text("x"))), "x")
		words(t, api.Node{Name: name, Text: "a b"})
	}
	// Words of what an attribute, or an element's Text, says are none.
	words(t, api.Node{Name: "p", Text: "a", Kids: []api.Node{{Name: "b", Text: "c"}, text("d")}}, "d")
	words(t, having(raw("p", text("x")), "class", "k"), "x")
}

func TestWordsOfNodesThatAreNoTree(t *testing.T) {
	// The kids of a text count too, and stand behind it.
	words(t, raw("p", api.Node{Text: "a", Kids: []api.Node{text("b"), {Text: " c", Kids: []api.Node{text("d")}}}}, text("e")), "ab", "cde")
	words(t, api.Node{Text: "a", Kids: []api.Node{raw("p", text("b"))}}, "b")
	words(t, raw("p", text("a"), text("b"), text(""), text(" "), text("c")), "ab", "c")
	words(t, raw("p", raw("doc", text("a")), raw("table", text("b")), raw("break", text("c")), raw("q", text("d"))), "abcd")
	words(t, raw("x", text("no"), raw("y", text("no"), raw("p", text("a")), text("no"))), "a")
}

func TestBlocksInOneAnother(t *testing.T) {
	words(t, raw("p", raw("p", text("a"))), "a", "a")
	words(t, raw("p", raw("p", raw("p", text("a b")))), "a", "b", "a", "b", "a", "b")
	words(t, raw("h1", text("a"), raw("p", text("b c")), text("d")), "ab", "cd", "b", "c")
	words(t, raw("h1", text("a "), raw("p", text("b c")), text(" d")), "a", "b", "c", "d", "b", "c")
	words(t, raw("h1", text("a"), raw("p"), text("d")), "ad")
	words(t, raw("h1", text("a"), raw("p", text(" ")), text("d")), "a", "d")
	words(t, raw("h1", text("a"), raw("p", text(" b")), raw("cell", text("c ")), text("d")), "a", "bc", "d", "b", "c")
	words(t, raw("h1", raw("p"), text("a"), raw("p")), "a")
	words(t, raw("h1", raw("p", text("a")), raw("h2", text("b"), raw("h3", text("c")), text("d")), raw("cell", text("e"))), "abcde", "a", "bcd", "c", "e")
	words(t, raw("h1", text("abc"), raw("p", text("def"), raw("p", text("ghi")), text("jkl")), text("mno")), "abcdefghijklmno", "defghijkl", "ghi")
	words(t, raw("h1", text("a b c"), raw("p", raw("p", text("d e f"))), text("g h i")), "a", "b", "cd", "e", "fg", "h", "i", "d", "e", "f", "d", "e", "f")
	words(t, raw("doc", raw("p", text("a"), raw("p", text("b"))), raw("p", text("c"))), "ab", "b", "c")
}

func TestTextsOfSheets(t *testing.T) {
	sheet := func(kids ...api.Node) api.Node { return raw("sheet", kids...) }
	words(t, raw("h1", text("a"), sheet(text("no")), raw("p", text("b c")), text("d")), "ab", "cd", "b", "c")
	words(t, raw("p", text("a"), sheet(text(" ")), text("b")), "ab")
	words(t, raw("p", text("a"), sheet(raw("b", text("no"), raw("i", text(" ")))), text("b")), "ab")
	words(t, raw("p", text("a"), raw("b", sheet(text("no"))), text("b")), "ab")
	words(t, sheet(text("no")))
	words(t, raw("doc", sheet(text("no")), raw("p", text("x"))), "x")
	words(t, raw("p", sheet()))
	// A block in a sheet is one of its own, but no part of the blocks around it.
	words(t, sheet(raw("p", text("a"))), "a")
	words(t, raw("doc", sheet(text("no"), raw("p", text("a")), text("no"))), "a")
	words(t, raw("h1", text("a "), sheet(text("no"), raw("p", text("b "), raw("p", text("c")), text("d"))), text("e")), "a", "e", "b", "cd", "c")
	words(t, raw("h1", text("a"), sheet(raw("p", text("b"), sheet(raw("h2", text("c"))))), raw("p", text("d"))), "ad", "b", "c", "d")
}

func TestWhereWordsAreCut(t *testing.T) {
	for c := range 256 {
		b := string([]byte{byte(c)})
		if c == 9 || c == 10 || c == 13 || c == 32 {
			words(t, raw("p", text("a"+b+"b")), "a", "b")
			words(t, raw("p", text(b+b+"a"+b+b+"b"+b)), "a", "b")
			words(t, raw("p", text(b)))
			words(t, raw("p", text("a"), text(b), text("b")), "a", "b")
		} else {
			words(t, raw("p", text("a"+b+"b")), "a"+b+"b")
			words(t, raw("p", text(b)), b)
			words(t, raw("p", text(b+" "+b+"\n"+b+b)), b, b, b+b)
		}
	}
	for _, s := range []string{"\u00a0", "\u0085", "\u2003", "\u3000", "\u2028", "\u200b", "\u1680", "\ufeff", "\v", "\f", "\x00", "\x1c", "\xff\xfe", "\u00e9\u20ac\U0001f600", "-", "."} {
		words(t, raw("p", text("a"+s+"b "+s)), "a"+s+"b", s)
	}
	// A character's bytes may stand in several texts.
	words(t, raw("p", text("a\xe2"), raw("b", text("\x82")), text("\xac b")), "a\u20ac", "b")
}

func TestManyWords(t *testing.T) {
	var long []string
	for i := range 50000 {
		long = append(long, fmt.Sprint("w", i))
	}
	n := doc(para(text(strings.Join(long, " "))))
	words(t, n, long...)
	kids := nested(60000, "p", text("x"))
	if got := tree.Words(kids[0]); len(got) != 60000 || slices.ContainsFunc(got, func(s string) bool { return s != "x" }) {
		t.Errorf("%d words of deep blocks", len(got))
	}
	// Blocks in one another that have blanks alone are not cut one by one.
	kids = nested(60000, "p", text(strings.Repeat(" ", 1<<20)))
	if got := tree.Words(kids[0]); len(got) != 0 {
		t.Errorf("%d words of blanks", len(got))
	}
	wide := api.Node{Name: "p", Kids: slices.Repeat([]api.Node{raw("h1"), text("x")}, 200000)}
	if got := tree.Words(wide); len(got) != 1 || got[0] != strings.Repeat("x", 200000) {
		t.Errorf("%d words of a wide block", len(got))
	}
}

// Attributes.

func attr(t *testing.T, n api.Node, name, value string, there bool) {
	t.Helper()
	v, ok := tree.Attr(n, name)
	if v != value || ok != there {
		t.Errorf("Attr(%s, %q) is %q, %v; asked: %q, %v", tell(n), name, v, ok, value, there)
	}
	if w, is := modelAttr(n, name); w != v || is != ok {
		t.Errorf("Attr(%s, %q) is %q, %v; model: %q, %v", tell(n), name, v, ok, w, is)
	}
}

func TestAttr(t *testing.T) {
	n := el("p", "id=a class=b to=c")
	attr(t, n, "id", "a", true)
	attr(t, n, "class", "b", true)
	attr(t, n, "to", "c", true)
	for _, name := range []string{"", "a", "ID", "i", "ids", "id ", "cla", "b", "p"} {
		attr(t, n, name, "", false)
		attr(t, api.Node{}, name, "", false)
	}
	two := el("p", "x=1 y=2 x=3 x=4 y=5")
	attr(t, two, "x", "1", true)
	attr(t, two, "y", "2", true)
	attr(t, two, "z", "", false)
	attr(t, el("", "x= x=1"), "x", "", true)
	attr(t, having(having(text("t"), "", "k"), "", "l"), "", "k", true)
	attr(t, having(text("t"), "", ""), "", "", true)
	attr(t, having(text("t"), "\xff", "\x00"), "\xff", "\x00", true)
	attr(t, para(el("b", "id=a")), "id", "", false)
	var many api.Node
	for i := range 1000 {
		many.Attrs = append(many.Attrs, api.Attr{Name: fmt.Sprint(i % 500), Value: fmt.Sprint(i)})
	}
	for i := range 500 {
		attr(t, many, fmt.Sprint(i), fmt.Sprint(i), true)
	}
}

// Whether two are alike.

// same fails, unless Same answers that, either way round.
func same(t *testing.T, a, b api.Node, want bool) {
	t.Helper()
	if tree.Same(a, b) != want || tree.Same(b, a) != want || modelSame(a, b) != want {
		t.Errorf("Same(%s, %s) is %v, %v; asked: %v; model: %v", tell(a), tell(b), tree.Same(a, b), tree.Same(b, a), want, modelSame(a, b))
	}
}

func TestSame(t *testing.T) {
	all := []api.Node{
		{}, text("a"), text("b"), text("ab"), text(" "), el("a", ""), el("b", ""), el("", "a=b"), el("", "b=a"), el("p", "a=b"), el("p", "a=c"), el("p", "b=b"), el("p", "a=b c=d"), el("p", "c=d a=b"), el("p", "a=b a=b"),
		para(), para(text("a")), para(text("b")), para(text("a"), text("a")), para(para()), para(el("b", "")), para(el("b", "a=b")), para(para(), para()), para(para(para())), para(text("a"), el("b", "")), para(el("b", ""), text("a")),
		{Name: "p", Text: "a"}, {Text: "a", Kids: []api.Node{{}}}, {Kids: []api.Node{{}}}, {Kids: []api.Node{{}, {}}}, {Kids: []api.Node{{Kids: []api.Node{{}}}}}, {Text: "\xff"}, {Text: "\xfe"}, {Name: "\xff"},
		doc(para(text("a"), el("b", "", nested(20, "i", text("x"))...))), doc(para(text("a"), el("b", "", nested(20, "i", text("y"))...))), doc(para(text("a"), el("b", "", nested(20, "i", el("i", "x=y"))...))),
	}
	for i, a := range all {
		for j, b := range all {
			same(t, a, b, i == j)
			same(t, doc(para(), a), doc(para(), b), i == j)
			same(t, para(nested(50, "b", a)...), para(nested(50, "b", b)...), i == j)
			same(t, raw("p", a, b), raw("p", b, a), i == j)
			same(t, at(5, a), at(j, b), i == j)
		}
		same(t, para(a), para(a, a), false)
		same(t, raw("q", at(1, a), at(2, a)), at(-1, raw("q", at(3, a), at(1<<40, a))), true)
	}
	same(t, api.Node{Attrs: []api.Attr{}, Kids: []api.Node{}}, api.Node{}, true)
	same(t, raw("p", nested(60000, "b", text("x"))...), raw("p", nested(60000, "b", at(7, text("x")))...), true)
	same(t, raw("p", nested(60000, "b", text("x"))...), raw("p", nested(60000, "b", text("y"))...), false)
	same(t, raw("p", nested(60000, "b", text("x"))...), raw("p", nested(60001, "b", text("x"))...), false)
}
