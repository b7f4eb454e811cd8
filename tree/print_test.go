package tree_test

import (
	"fmt"
	"math"
	"slices"
	"strings"
	"testing"

	"colophon/api"
	"colophon/tree"
)

// P18.2: trees, and nodes that are none.

func TestTreesOfEachKind(t *testing.T) {
	writes(t, "<doc/>", doc())
	writes(t, "<doc><p/></doc>", doc(para()))
	writes(t, "<doc><p>a&lt;<b/></p></doc>", doc(para(text("a<"), at(77, el("b", "")))))
	writes(t, "<doc><sheet/></doc>", doc(el("sheet", "")))
	writes(t, "<doc><sheet>p &gt; a { }</sheet><p/></doc>", doc(el("sheet", "", text("p > a { }")), para()))
	writes(t, "<doc><sheet> </sheet></doc>", doc(el("sheet", "", text(" "))))
	writes(t, "<doc><h1/><h2/><h3/><break/><break/></doc>", doc(el("h1", ""), el("h2", ""), el("h3", ""), el("break", ""), el("break", "")))
	writes(t, "<doc><p> <b> </b>\n</p></doc>", doc(para(text(" "), el("b", "", text(" ")), text("\n"))))
	writes(t, "<doc><p>&lt;&gt;&amp;&quot;'\u20ac</p></doc>", doc(para(text("<>&\"'\u20ac"))))
	writes(t, "<doc id=\"d\" class=\"a b\"><table><row head=\"yes\"><cell cols=\"16\" rows=\"128\">x<a to=\"d\" id=\"e\">y</a></cell><cell/></row></table></doc>",
		having(el("doc", "id=d", el("table", "", el("row", "head=yes", el("cell", "cols=16 rows=128", text("x"), el("a", "to=d id=e", text("y"))), el("cell", "")))), "class", "a b"))
	writes(t, "<doc><p>x<b/>x<b/>x</p></doc>", doc(para(text("x"), el("b", ""), text("x"), el("b", ""), text("x"))))
}

func TestEmptyListsAreNone(t *testing.T) {
	n := doc(api.Node{Name: "p", Attrs: []api.Attr{}, Kids: []api.Node{{Text: "x", Attrs: []api.Attr{}, Kids: []api.Node{}}, {Name: "b", Kids: []api.Node{}}}})
	writes(t, "<doc><p>x<b/></p></doc>", n)
	none(t, "an empty list", doc(api.Node{Name: "table", Kids: []api.Node{}}))
	if !tree.Same(n, doc(para(text("x"), el("b", "")))) {
		t.Error("empty lists are not alike")
	}
}

func TestPlacesAreNotLookedAt(t *testing.T) {
	for _, place := range []int{0, 1, -1, 99, mostBytes, mostBytes + 1, math.MaxInt, math.MinInt} {
		writes(t, "<doc><p>x<b/></p></doc>", at(place, doc(at(place, para(at(-place, text("x")), at(place/2, el("b", "")))))))
		none(t, "not a tree", at(place, para()))
		none(t, "nothing", at(place, api.Node{}))
	}
}

func TestWhereNodesMayStand(t *testing.T) {
	for _, in := range names() {
		for _, name := range append(names(), "q", "", "x-1", "P") {
			kid := el(name, map[string]string{"a": "to=x"}[name])
			switch name {
			case "table":
				kid = el("table", "", el("row", "", el("cell", "")))
			case "row":
				kid = el("row", "", el("cell", ""))
			}
			n := within(in, kid)
			if slices.Contains(strings.Fields(mayHold()[in]), name) {
				if err := prints(t, name+" in "+in, n); err != api.OK {
					t.Errorf("%s in %s: %v", name, in, err)
				}
			} else {
				none(t, name+" in "+in, n)
			}
		}
		for _, s := range []string{"", " ", "\n", "\t\r", "x", " x", "\u00a0"} {
			n := within(in, text(s))
			if s != "" && slices.Contains([]string{"sheet", "h1", "h2", "h3", "p", "cell", "b", "i", "span", "a"}, in) {
				if err := prints(t, "a text in "+in, n); err != api.OK {
					t.Errorf("%q in %s: %v", s, in, err)
				}
			} else {
				none(t, "a text in "+in, n)
			}
		}
	}
}

// within is the shortest document with a node in such an element, and whatever
// else has to be there.
func within(in string, kid api.Node) api.Node {
	switch in {
	case "doc":
		return doc(kid)
	case "table":
		return doc(el("table", "", kid))
	case "row":
		return doc(el("table", "", el("row", "", kid)))
	case "cell":
		return doc(el("table", "", el("row", "", el("cell", "", kid))))
	case "a":
		return doc(para(el("a", "to=y", kid)))
	case "b", "i", "span":
		return doc(para(el(in, "", kid)))
	}
	return doc(el(in, "", kid))
}

// bad are nodes that stand in no tree, as kids of a p.
func bad() map[string]api.Node {
	all := map[string]api.Node{
		"nothing":                         {},
		"an empty text":                   text(""),
		"a name and a text":               {Name: "b", Text: "x"},
		"a name, a text and kids":         {Name: "b", Text: "x", Kids: []api.Node{text("y")}},
		"a name, and a text that is it":   {Name: "b", Text: "<b/>"},
		"a text with a kid":               {Text: "x", Kids: []api.Node{text("y")}},
		"a text with an element":          {Text: "x", Kids: []api.Node{el("b", "")}},
		"a text with an attribute":        having(text("x"), "id", "k"),
		"an empty one with an attribute":  having(text(""), "id", "k"),
		"kids alone":                      {Kids: []api.Node{text("x")}},
		"an unknown attribute":            el("b", "x=y"),
		"an attribute without a name":     having(el("b", ""), "", ""),
		"two that are alike":              el("b", "class=k class=k"),
		"two of one name":                 el("b", "class=k class=l"),
		"two targets":                     el("a", "to=k to=l"),
		"two ids":                         el("b", "id=k id=l"),
		"an id twice":                     el("b", "id=k", el("i", "id=k")),
		"a twofold id":                    el("b", "id=k id=k"),
		"no target":                       el("a", ""),
		"no target, but another":          el("a", "id=to"),
		"an a in an a":                    el("a", "to=k", el("a", "to=k")),
		"an a deep in an a":               el("a", "to=k", el("b", "", text("x"), el("i", "", el("a", "to=k")))),
		"a name with its end":             el("b/", ""),
		"a name with an attribute":        el("b class=\"k\"", ""),
		"a name with an attribute's name": having(el("b", ""), "class=\"k\" id", "k"),
		"a value that ends":               having(el("b", ""), "class", "k\" id=\"k"),
		"a name with a blank":             el("b ", ""),
		"a name that closes":              el("/b", ""),
		"a great name":                    el("B", ""),
		"a long name":                     el(strings.Repeat("b", 1000), ""),
		"an unknown element":              el("q", ""),
	}
	for i, v := range noNames() {
		all[fmt.Sprint("no id ", i)] = having(el("b", ""), "id", v)
		all[fmt.Sprint("no target ", i)] = having(el("a", ""), "to", v)
		all[fmt.Sprint("no name of an attribute ", i)] = having(el("b", ""), v, "k")
		if v != "a b" {
			all[fmt.Sprint("no class ", i)] = having(el("b", ""), "class", v)
			all[fmt.Sprint("no classes ", i)] = having(el("b", ""), "class", "k "+v)
		}
	}
	for i, s := range []string{"\xff", "a\xff", "\xe2\x82", "\xc0\x80", "\xed\xa0\x80", "\x00", "a\x01b", "\x08", "\v", "\f", "\x1f", "\x7f", "\u0080", "\u0085 ", "\u009f"} {
		all[fmt.Sprint("no text ", i)] = text(s)
		all[fmt.Sprint("no text in an element ", i)] = el("b", "", text("x"+s))
		all[fmt.Sprint("no value ", i)] = having(el("b", ""), "class", "k"+s)
		all[fmt.Sprint("no name ", i)] = el("b"+s, "")
	}
	return all
}

func TestNodesThatAreNoTree(t *testing.T) {
	for what, x := range bad() {
		none(t, what+" as it is", x)
		none(t, what, doc(para(x)))
		none(t, what+" in a doc", doc(x))
		none(t, what+" behind others", doc(el("h1", ""), para(el("i", "", text("k")), x, el("b", "class=k", text("k")))))
		none(t, what+" deep within", doc(el("table", "", el("row", "", el("cell", "", nested(20, "b", x)...)))))
		none(t, what+" as a cell", doc(el("table", "", el("row", "", el("cell", ""), x))))
		none(t, what+" as a sheet's text", doc(el("sheet", "", x)))
	}
	none(t, "a text at the top", text("a"))
	none(t, "a blank at the top", text(" "))
	none(t, "an element at the top", para(text("a")))
	none(t, "a table at the top", el("table", "", el("row", "", el("cell", ""))))
	none(t, "a doc in a doc", doc(doc()))
	none(t, "a doc with a text", api.Node{Name: "doc", Text: "x"})
	none(t, "a doc with blanks as its text", api.Node{Name: "doc", Text: " "})
	none(t, "a doc without a name", api.Node{Kids: []api.Node{para()}})
	none(t, "a doc with an attribute", el("doc", "to=x"))
	none(t, "a table without rows", doc(el("table", "")))
	none(t, "a row without cells", doc(el("table", "", el("row", ""))))
	none(t, "a second row without cells", doc(el("table", "", el("row", "", el("cell", "")), el("row", ""))))
	none(t, "a second sheet", doc(el("sheet", ""), el("sheet", "")))
	none(t, "a sheet behind a p", doc(para(), el("sheet", "")))
	none(t, "a sheet with an element", doc(el("sheet", "", el("b", ""))))
	none(t, "a break with a text", doc(el("break", "", text(" "))))
	none(t, "two docs' ids", el("doc", "id=a", para(el("b", "id=b")), el("p", "id=a")))
}

func TestTextsSideBySide(t *testing.T) {
	a, b, x := text("a"), text(" "), el("b", "")
	for _, in := range []string{"p", "h1", "cell", "b", "a", "sheet"} {
		for _, l := range [][]api.Node{{a, a}, {a, b}, {b, a}, {b, b}, {a, b, a}, {a, text("")}, {text(""), a}} {
			n := within(in, text("z"))
			none(t, "side by side in "+in, put(n, l...))
		}
	}
	none(t, "behind an element", doc(para(x, a, a)))
	none(t, "ahead of an element", doc(para(a, a, x)))
	none(t, "in the middle", doc(para(a, x, a, x, b, a, x, a)))
	none(t, "in a doc", doc(para(), b, b, para()))
	writes(t, "<doc><p>a<b/>a</p><p>a</p></doc>", doc(para(a, x, a), para(a)))
	writes(t, "<doc><p>a<b>a</b>a</p></doc>", doc(para(a, el("b", "", a), a)))
}

// put puts nodes in the place of the only text of a tree.
func put(n api.Node, l ...api.Node) api.Node {
	if n.Kids[0].Name == "" {
		n.Kids = l
		return n
	}
	n.Kids = []api.Node{put(n.Kids[0], l...)}
	return n
}

func TestBlanksThatAreLeftOut(t *testing.T) {
	for _, s := range []string{" ", "\n", "\t", "\r", " \n\t\r "} {
		b, cell := text(s), el("cell", "")
		row := el("row", "", cell)
		none(t, "in a doc", doc(b))
		none(t, "in a doc, ahead", doc(b, para()))
		none(t, "in a doc, behind", doc(para(), b))
		none(t, "in a doc, between", doc(para(), b, para()))
		none(t, "in a table", doc(el("table", "", b)))
		none(t, "in a table, ahead", doc(el("table", "", b, row)))
		none(t, "in a table, behind", doc(el("table", "", row, b)))
		none(t, "in a row", doc(el("table", "", el("row", "", b))))
		none(t, "in a row, behind", doc(el("table", "", el("row", "", cell, b))))
		writes(t, "<doc><p>"+s+"</p></doc>", doc(para(b)))
		writes(t, "<doc><table><row><cell>"+s+"</cell></row></table></doc>", doc(el("table", "", el("row", "", el("cell", "", b)))))
	}
}

func TestWhatMayBeInPrintedTrees(t *testing.T) {
	for _, v := range []string{"1", "9", "10", "16", "0", "17", "01", "+1", "", "128", "129", "100", "-1", "1 ", "99999999999999999999"} {
		prints(t, "cols", doc(el("table", "", el("row", "", having(el("cell", ""), "cols", v)))))
		prints(t, "rows", doc(el("table", "", el("row", "", having(el("cell", ""), "rows", v)))))
		prints(t, "a head", doc(el("table", "", having(el("row", "", el("cell", "")), "head", v))))
	}
	writes(t, "<doc><table><row head=\"yes\"><cell cols=\"16\"/><cell rows=\"128\"/></row></table></doc>", doc(el("table", "", el("row", "head=yes", el("cell", "cols=16"), el("cell", "rows=128")))))
	none(t, "a head", doc(el("table", "", el("row", "head=no", el("cell", "")))))
	none(t, "cols", doc(el("table", "", el("row", "", el("cell", "cols=17")))))
	none(t, "rows", doc(el("table", "", el("row", "", el("cell", "rows=129")))))
	for _, v := range someNames() {
		writes(t, "<doc><p id=\""+v+"\" class=\"x "+v+"\"><a to=\""+v+"\"/></p></doc>", doc(having(having(para(having(el("a", ""), "to", v)), "id", v), "class", "x "+v)))
	}
	var many []api.Attr
	for i := range 20 {
		many = append(many, api.Attr{Name: fmt.Sprint("a", i), Value: "x"})
		none(t, "many attributes", api.Node{Name: "doc", Attrs: many})
	}
}

func TestPrintLimits(t *testing.T) {
	writes(t, "<doc><p>"+strings.Repeat("<b>", 29)+"<b/>"+strings.Repeat("</b>", 29)+"</p></doc>", doc(para(nested(30, "b")...)))
	writes(t, "<doc><p>"+strings.Repeat("<b>", 30)+"x"+strings.Repeat("</b>", 30)+"</p></doc>", doc(para(nested(30, "b", text("x"))...)))
	none(t, "too deep", doc(para(nested(31, "b")...)))
	none(t, "too deep", doc(para(nested(31, "b", text("x"))...)))
	none(t, "too deep in a cell", doc(el("table", "", el("row", "", el("cell", "", nested(29, "i")...)))))
	none(t, "too deep the second time", doc(para(nested(30, "b")...), para(nested(31, "span")...)))
	unwritten(t, "very deep", api.ErrTree, doc(para(nested(60000, "b")...)))
	unwritten(t, "very deep, of texts", api.ErrTree, doc(para(nested(60000, "", text("x"))...)))
	if err := prints(t, "as many as may be", api.Node{Name: "doc", Kids: slices.Repeat([]api.Node{para()}, 4095)}); err != api.OK {
		t.Error(err)
	}
	none(t, "one more", api.Node{Name: "doc", Kids: slices.Repeat([]api.Node{para()}, 4096)})
	if err := prints(t, "texts and elements", doc(api.Node{Name: "p", Kids: slices.Repeat([]api.Node{text("x"), el("b", "")}, 2047)})); err != api.OK {
		t.Error(err)
	}
	none(t, "a text more", doc(api.Node{Name: "p", Kids: append(slices.Repeat([]api.Node{text("x"), el("b", "")}, 2047), text("x"))}))
	none(t, "an element more", doc(api.Node{Name: "p", Kids: append(slices.Repeat([]api.Node{text("x"), el("b", "")}, 2047), el("b", ""))}))
	if err := prints(t, "elements that are not empty", api.Node{Name: "doc", Kids: append(slices.Repeat([]api.Node{para(text("x"))}, 2047), para())}); err != api.OK {
		t.Error(err)
	}
	none(t, "one more of them", api.Node{Name: "doc", Kids: slices.Repeat([]api.Node{para(text("x"))}, 2048)})
	unwritten(t, "a great many", api.ErrTree, api.Node{Name: "doc", Kids: slices.Repeat([]api.Node{para()}, 1000000)})
	// Trees whose nodes are so many that nobody could go through them.
	all := []api.Node{para()}
	for deep := range 60 {
		all = []api.Node{{Name: "b", Kids: all}, {Name: "i", Kids: all}}
		if deep >= 28 {
			unwritten(t, "more than can be gone through", api.ErrTree, doc(para(all...)))
		}
	}
}

func TestTextsThatAreTooLong(t *testing.T) {
	p := func(s string) api.Node { return doc(para(text(s))) }
	const around = len("<doc><p></p></doc>")
	for s, size := range map[string]int{"x": 1, "\u20ac": 3, "<": 4, ">": 4, "&": 5, "\"": 6, " ": 1} {
		room := mostBytes - around
		many := strings.Repeat(s, room/size)
		full := many + strings.Repeat("y", room%size)
		if got, err := tree.Print(p(full)); len(got) != mostBytes || err != api.OK {
			t.Errorf("as many %q as may be: %d bytes, %v", s, len(got), err)
		}
		unwritten(t, "a byte more", api.ErrLong, p(full+"z"))
		unwritten(t, "as long as a text is", api.ErrLong, p(strings.Repeat(s, mostBytes/len(s))))
		unwritten(t, "longer than a text is", api.ErrLong, p(strings.Repeat(s, mostBytes+1)))
		unwritten(t, "in a sheet", api.ErrLong, doc(el("sheet", "", text(strings.Repeat(s, mostBytes+1)))))
		unwritten(t, "many together", api.ErrLong, doc(slices.Repeat([]api.Node{para(text(strings.Repeat(s, 1<<17)))}, 8)...))
		unwritten(t, "many together", api.ErrLong, doc(slices.Repeat([]api.Node{para(text(strings.Repeat(s, 1000)))}, 1100)...))
	}
	// What is no tree comes ahead of what is too long, wherever it stands.
	long := para(text(strings.Repeat("x", mostBytes)))
	unwritten(t, "too long", api.ErrLong, doc(long))
	for what, x := range bad() {
		unwritten(t, what+" behind it", api.ErrTree, doc(long, para(x)))
		unwritten(t, what+" ahead of it", api.ErrTree, doc(para(x), long))
	}
	unwritten(t, "a long text in a doc", api.ErrTree, doc(long.Kids[0]))
	unwritten(t, "long blanks in a doc", api.ErrTree, doc(text(strings.Repeat(" ", mostBytes+1))))
	unwritten(t, "a long text that is none", api.ErrTree, p(strings.Repeat("x", mostBytes)+"\x01"))
	unwritten(t, "a long text that is none", api.ErrTree, p("\xff"+strings.Repeat("x", mostBytes)))
	unwritten(t, "two long texts", api.ErrTree, doc(para(long.Kids[0], long.Kids[0])))
	unwritten(t, "a long class", api.ErrLong, doc(having(para(), "class", "a"+strings.Repeat(" a", mostBytes))))
	unwritten(t, "a long class that is none", api.ErrTree, doc(having(para(), "class", strings.Repeat("a ", mostBytes))))
	unwritten(t, "a long name", api.ErrTree, doc(el(strings.Repeat("p", mostBytes+1), "")))
	unwritten(t, "a long id", api.ErrTree, doc(having(para(), "id", strings.Repeat("p", mostBytes+1))))
	unwritten(t, "long cols", api.ErrTree, doc(el("table", "", el("row", "", having(el("cell", ""), "cols", strings.Repeat("1", mostBytes+1))))))
}
