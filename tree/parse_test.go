package tree_test

import (
	"fmt"
	"slices"
	"strings"
	"testing"

	"colophon/api"
	"colophon/tree"
)

func TestTheChaptersExamples(t *testing.T) {
	shows(t, "<doc><p>a <b>b</b></p></doc>", doc(at(5, para(at(8, text("a ")), at(10, el("b", "", at(13, text("b"))))))))
	for s, want := range map[string][]string{"<doc><p>a <b>b</b></p></doc>": {"a", "b"}, "<doc><p>ta<b>ble</b> x</p></doc>": {"table", "x"}} {
		n, _, _ := tree.Parse(s)
		words(t, n, want...)
	}
	shows(t, "<doc></doc>", doc())
	shows(t, "<doc/>", doc())
	refused(t, "an example", "<p/>", 0, api.ErrTree)
	refused(t, "an example", "<doc>x</doc>", 5, api.ErrPlace)
	refused(t, "an example", "<doc><p>", 8, api.ErrTree)
	refused(t, "an example", "<doc><a to=\"x\"/></doc>", 5, api.ErrPlace)
	refused(t, "an example", "<doc><p id=\"a\"/><p id=\"a\"/></doc>", 16, api.ErrId)
	refused(t, "an example", "<doc><table></table></doc>", 12, api.ErrPlace)
	refused(t, "an example", "<doc/><doc/>", 6, api.ErrTree)
}

// P18.1: what stands around doc.

func TestWithoutDoc(t *testing.T) {
	refused(t, "nothing", "", 0, api.ErrTree)
	for _, s := range []string{" ", "\n", "\t\r\n ", "&#32;", "&#10; &#13;&#9;", strings.Repeat(" ", 1000)} {
		refused(t, "blanks alone", s, len(s), api.ErrTree)
	}
	for _, s := range []string{"x", " x", "x ", "\u00e9", "\u00a0", "\u2003", "\u0020.", "&lt;", "&#33;", "&#160;", "\ufeff"} {
		refused(t, "a text alone", s, 0, api.ErrTree)
		refused(t, "a text ahead of doc", s+"<doc/>", 0, api.ErrTree)
		refused(t, "a text ahead of doc", s+"<doc></doc>", 0, api.ErrTree)
		refused(t, "a text behind doc", "<doc/>"+s, 6, api.ErrTree)
		refused(t, "a text behind doc", "<doc></doc>"+s, 11, api.ErrTree)
		refused(t, "a text behind doc that has blanks ahead", " <doc></doc> "+s, 12, api.ErrTree)
	}
}

func TestBlanksAroundDoc(t *testing.T) {
	for _, s := range []string{"", " ", "\n", "\t\r\n ", "&#32;", "&#10; &#13;&#9;", strings.Repeat("\r\n", 5000)} {
		for _, behind := range []string{"", " ", "\t\n&#32;\r"} {
			shows(t, s+"<doc/>"+behind, at(len(s), doc()))
			shows(t, s+"<doc></doc>"+behind, at(len(s), doc()))
			shows(t, s+"<doc>"+behind+"</doc>"+s, at(len(s), doc()))
			shows(t, s+"<doc>"+behind+"<p/></doc>"+s, at(len(s), doc(at(len(s)+5+len(behind), para()))))
			refused(t, "not closed", s+"<doc>"+behind, len(s)+5+len(behind), api.ErrTree)
		}
	}
}

func TestTagsAroundDoc(t *testing.T) {
	for _, name := range append(names(), "q", "docs", "do", "x-1") {
		for _, s := range []string{"<" + name + ">", "<" + name + "/>", "</" + name + ">", "<" + name + " id=\"a\"/>", "<" + name + " id=\"a\">"} {
			refused(t, "a tag behind doc", "<doc/>"+s, 6, api.ErrTree)
			refused(t, "a tag behind doc", "<doc></doc> "+s, 12, api.ErrTree)
			refused(t, "a tag behind doc", "<doc><p>x</p></doc>\n"+s+"<p/>", 20, api.ErrTree)
			if name != "doc" || s == "</doc>" {
				refused(t, "a tag ahead of doc", s, 0, api.ErrTree)
				refused(t, "a tag ahead of doc", s+"<doc/>", 0, api.ErrTree)
				refused(t, "a tag ahead of doc, behind a blank", "\n"+s+" <doc/>", 1, api.ErrTree)
			}
		}
	}
	refused(t, "doc itself, with what it has not", "<doc x=\"\"/>", 0, api.ErrPlace)
}

// What may stand in what.

func names() []string {
	return []string{"doc", "sheet", "h1", "h2", "h3", "p", "table", "row", "cell", "break", "b", "i", "span", "a"}
}

// mayHold says it once more, as a table.
func mayHold() map[string]string {
	all := map[string]string{"doc": "sheet h1 h2 h3 p table break", "table": "row", "row": "cell"}
	for _, n := range []string{"h1", "h2", "h3", "p", "cell", "b", "i", "span"} {
		all[n] = "b i span a"
	}
	all["a"] = "b i span"
	return all
}

// ahead is what stands ahead of the kids of an element in the shortest document
// with one, and what stands behind them.
func ahead(name string) (string, string) {
	switch name {
	case "doc":
		return "<doc>", "</doc>"
	case "row":
		return "<doc><table><row>", "</row></table></doc>"
	case "cell":
		return "<doc><table><row><cell>", "</cell></row></table></doc>"
	case "a":
		return "<doc><p><a to=\"x\">", "</a></p></doc>"
	case "b", "i", "span":
		return "<doc><p><" + name + ">", "</" + name + "></p></doc>"
	}
	return "<doc><" + name + ">", "</" + name + "></doc>"
}

// sample is an element, empty but for what has to be, as one tag or as two; and
// where it ends.
func sample(name string) []string {
	switch name {
	case "a":
		return []string{"<a to=\"y\"/>", "<a to=\"y\"></a>"}
	case "table":
		return []string{"<table><row><cell/></row></table>"}
	case "row":
		return []string{"<row><cell/></row>"}
	}
	return []string{"<" + name + "/>", "<" + name + "></" + name + ">"}
}

func TestEachElementInEachOther(t *testing.T) {
	well := 0
	for _, in := range names() {
		before, behind := ahead(in)
		for _, name := range append(names(), "q", "h4", "pp", "li", "h", "tables", "th", "x-1") {
			for _, s := range sample(name) {
				if slices.Contains(strings.Fields(mayHold()[in]), name) {
					taken(t, name+" in "+in, before+s+behind)
					well++
				} else {
					refused(t, name+" in "+in, before+s+behind, len(before), api.ErrPlace)
				}
			}
		}
	}
	if well != 2*(5+1+8*4+3)+1+1+2 {
		t.Error(well)
	}
}

func TestElementsOfEachKindWithSomethingInThem(t *testing.T) {
	for _, in := range names() {
		before, behind := ahead(in)
		for _, first := range strings.Fields(mayHold()[in]) {
			for _, next := range strings.Fields(mayHold()[in]) {
				for _, s := range sample(first) {
					if next == "sheet" {
						refused(t, "a sheet that is not the first", before+s+sample(next)[0]+behind, len(before)+len(s), api.ErrPlace)
						continue
					}
					taken(t, first+" and "+next+" in "+in, before+s+sample(next)[0]+behind)
					taken(t, first+" and "+next+" twice in "+in, before+s+sample(next)[0]+"\n"+sample(next)[0]+behind)
				}
			}
		}
	}
}

func TestDocument(t *testing.T) {
	const s = " <doc id=\"d\"><sheet>p { }</sheet>\n<h1>A</h1> <h2 class=\"x y\"/><h3><i/></h3><p>b<b/>c</p><break/>\n<table><row head=\"yes\"> <cell cols=\"2\" rows=\"3\">d</cell><cell/></row>\t<row><cell><a to=\"d\"><span>e</span></a></cell></row></table>\n<p/></doc>\n"
	n, _, err := tree.Parse(s)
	if err != api.OK {
		t.Fatal(err)
	}
	place := 0
	// find is the place of a tag or a text behind the last one.
	find := func(what string) int {
		place += strings.Index(s[place:], what)
		place++
		return place - 1
	}
	want := at(1, el("doc", "id=d",
		at(find("<sheet"), el("sheet", "", at(find("p {"), text("p { }")))),
		at(find("<h1"), el("h1", "", at(find("A"), text("A")))),
		having(at(find("<h2"), el("h2", "")), "class", "x y"),
		at(find("<h3"), el("h3", "", at(find("<i"), el("i", "")))),
		at(find("<p"), para(at(find("b"), text("b")), at(find("<b"), el("b", "")), at(find("c<"), text("c")))),
		at(find("<break"), el("break", "")),
		at(find("<table"), el("table", "",
			at(find("<row"), el("row", "head=yes", at(find("<cell"), el("cell", "cols=2 rows=3", at(find("d</"), text("d")))), at(find("<cell"), el("cell", "")))),
			at(find("<row"), el("row", "", at(find("<cell"), el("cell", "", at(find("<a"), el("a", "to=d", at(find("<span"), el("span", "", at(find("e</"), text("e")))))))))))),
		at(find("<p/"), para())))
	shows(t, s, want)
	words(t, n, "A", "bc", "d", "e")
}

func TestEmptyElements(t *testing.T) {
	shows(t, "<doc><p/></doc>", doc(at(5, para())))
	shows(t, "<doc><p></p></doc>", doc(at(5, para())))
	shows(t, "<doc><h1/><h2></h2><h3/><break></break><break/></doc>", doc(at(5, el("h1", "")), at(10, el("h2", "")), at(19, el("h3", "")), at(24, el("break", "")), at(39, el("break", ""))))
	shows(t, "<doc><sheet/></doc>", doc(at(5, el("sheet", ""))))
	shows(t, "<doc><sheet></sheet></doc>", doc(at(5, el("sheet", ""))))
	shows(t, "<doc><p><b/><i></i><span/><a to=\"x\"/></p></doc>", doc(at(5, para(at(8, el("b", "")), at(12, el("i", "")), at(19, el("span", "")), at(26, el("a", "to=x"))))))
	shows(t, "<doc><table><row><cell/><cell></cell></row></table></doc>", doc(at(5, el("table", "", at(12, el("row", "", at(17, el("cell", "")), at(24, el("cell", ""))))))))
}

func TestTablesAndRowsWithNothing(t *testing.T) {
	refused(t, "an empty table", "<doc><table/></doc>", 5, api.ErrPlace)
	refused(t, "an empty row", "<doc><table><row/></table></doc>", 12, api.ErrPlace)
	refused(t, "a second row that is empty", "<doc><table><row><cell/></row><row/></table></doc>", 30, api.ErrPlace)
	refused(t, "an empty row behind a blank", "<doc><table> <row id=\"a\"/></table></doc>", 13, api.ErrPlace)
	for _, s := range []string{"", " ", "\t\r\n", "&#32;", " &#10;"} {
		refused(t, "an empty table", "<doc><table>"+s+"</table></doc>", 12+len(s), api.ErrPlace)
		refused(t, "an empty row", "<doc><table><row>"+s+"</row></table></doc>", 17+len(s), api.ErrPlace)
		refused(t, "a second row that is empty", "<doc><table><row><cell/></row><row>"+s+"</row></table></doc>", 35+len(s), api.ErrPlace)
		refused(t, "another tag", "<doc><table>"+s+"</row></doc>", 12+len(s), api.ErrTree)
		taken(t, "not empty", "<doc><table>"+s+"<row>"+s+"<cell/>"+s+"</row>"+s+"</table>"+s+"</doc>")
	}
}

func TestSheet(t *testing.T) {
	for _, s := range []string{"", " ", "\n&#32;\t"} {
		n := len(s)
		shows(t, "<doc>"+s+"<sheet>x</sheet></doc>", doc(at(5+n, el("sheet", "", at(12+n, text("x"))))))
		taken(t, "a sheet", "<doc>"+s+"<sheet/>"+s+"<p/></doc>")
		refused(t, "a second sheet", "<doc><sheet/>"+s+"<sheet/></doc>", 13+n, api.ErrPlace)
		refused(t, "a second sheet", "<doc><sheet></sheet>"+s+"<sheet>x</sheet></doc>", 20+n, api.ErrPlace)
		refused(t, "a sheet behind a p", "<doc><p/>"+s+"<sheet/></doc>", 9+n, api.ErrPlace)
		refused(t, "a sheet behind a break", "<doc><break></break>"+s+"<sheet></sheet></doc>", 20+n, api.ErrPlace)
		refused(t, "a third sheet", "<doc><sheet/><p/>"+s+"<sheet/></doc>", 17+n, api.ErrPlace)
	}
	shows(t, "<doc><sheet> \n</sheet></doc>", doc(at(5, el("sheet", "", at(12, text(" \n"))))))
	shows(t, "<doc><sheet>&#32;</sheet></doc>", doc(at(5, el("sheet", "", at(12, text(" "))))))
	shows(t, "<doc><sheet>p > a {}</sheet></doc>", doc(at(5, el("sheet", "", at(12, text("p > a {}"))))))
	for _, name := range append(names(), "q") {
		refused(t, "an element in a sheet", "<doc><sheet><"+name+"/></sheet></doc>", 12, api.ErrPlace)
		refused(t, "an element behind a sheet's text", "<doc><sheet>x<"+name+" to=\"a\"/>y</sheet></doc>", 13, api.ErrPlace)
	}
}

func TestTexts(t *testing.T) {
	for _, in := range names() {
		before, behind := ahead(in)
		if in == "table" || in == "row" {
			_, last := ahead(in)
			s := map[string]string{"table": "<row><cell/></row>", "row": "<cell/>"}[in]
			before, behind = before+s, last
		}
		for _, s := range []string{" ", "\n", "\t \r\n", "&#32;", " &#9;", "&#10;&#13;"} {
			switch in {
			case "doc", "table", "row":
				taken(t, "blanks in "+in, before+s+behind)
				if n, _, _ := tree.Parse(before + s + behind); len(lines(n)) != len(must(t, before+behind)) {
					t.Errorf("%q in %s is kept: %s", s, in, tell(n))
				}
			case "break":
				refused(t, "blanks in a break", before+s+behind, len(before), api.ErrPlace)
			default:
				taken(t, "blanks in "+in, before+s+behind)
				if l := must(t, before+s+behind); l[len(l)-1].at != len(before) || !blankText.MatchString(l[len(l)-1].text) || l[len(l)-1].text == "" {
					t.Errorf("%q in %s: %v", s, in, l)
				}
			}
		}
		for _, s := range []string{"x", " x", "x ", "\u00a0", "\u2003 ", "&lt;", "&#160;", "\u200b", "\u0009x", "\u3000", "\ufeff"} {
			switch in {
			case "doc", "table", "row", "break":
				refused(t, "a text in "+in, before+s+behind, len(before), api.ErrPlace)
			default:
				taken(t, "a text in "+in, before+s+behind)
			}
		}
	}
	refused(t, "a text between rows", "<doc><table><row><cell/></row>x<row><cell/></row></table></doc>", 30, api.ErrPlace)
	refused(t, "a text between cells", "<doc><table><row><cell/> . <cell/></row></table></doc>", 24, api.ErrPlace)
	refused(t, "a text between blocks", "<doc><p/> \n&amp;<p/></doc>", 9, api.ErrPlace)
	shows(t, "<doc><p> <b> </b> </p></doc>", doc(at(5, para(at(8, text(" ")), at(9, el("b", "", at(12, text(" ")))), at(17, text(" "))))))
	shows(t, "<doc><p>&lt;&#8364;\u20ac>\"</p></doc>", doc(at(5, para(at(8, text("<\u20ac\u20ac>\""))))))
}

// must are the lines of a document that is well.
func must(t *testing.T, s string) []line {
	t.Helper()
	n, _, err := tree.Parse(s)
	if err != api.OK {
		t.Errorf("Parse(%s): %v", tell(s), err)
	}
	return lines(n)
}

func TestBreak(t *testing.T) {
	for _, s := range []string{"x", " ", "\n", "&#32;", "<p/>", "<break/>", "<b>", "<q/>", "<sheet/>"} {
		refused(t, "something in a break", "<doc><break>"+s+"</break></doc>", 12, api.ErrPlace)
	}
	refused(t, "not closed", "<doc><break>", 12, api.ErrTree)
	refused(t, "not closed", "<doc><break></doc>", 12, api.ErrTree)
	taken(t, "breaks", "<doc><break/><break></break> <break />\n</doc>")
	for _, in := range []string{"p", "h1", "table", "row", "cell", "a", "b", "sheet", "break"} {
		before, behind := ahead(in)
		refused(t, "a break in "+in, before+"<break/>"+behind, len(before), api.ErrPlace)
	}
}

func TestLinksInLinks(t *testing.T) {
	const a, b = "<a to=\"x\">", "<a to=\"y\"/>"
	p := func(s string) string { return "<doc><p>" + s + "</p></doc>" }
	refused(t, "at once", p(a+b+"</a>"), 18, api.ErrPlace)
	refused(t, "behind a text", p(a+"k"+b+"</a>"), 19, api.ErrPlace)
	refused(t, "in a b", p(a+"<b>"+b+"</b></a>"), 21, api.ErrPlace)
	refused(t, "deep within", p("<i>"+a+"k<b><i><span>l"+b+"</span></i></b></a></i>"), 35, api.ErrPlace)
	refused(t, "behind what is closed within", p(a+"<b><i/></b><span>k</span>"+b+"</a>"), 43, api.ErrPlace)
	refused(t, "as an opening tag", p(a+"<b>"+a+"</a></b></a>"), 21, api.ErrPlace)
	refused(t, "in the second", p(a+"</a>"+a+b+"</a>"), 32, api.ErrPlace)
	taken(t, "behind one", p(a+"k</a>"+b))
	taken(t, "behind an empty one", p(b+a+"k</a>"+b+b))
	taken(t, "behind a deep one", p("<b><i>"+a+"k</a></i>"+b+"</b><span>"+a+"</a></span>"))
	taken(t, "in another block", "<doc><p>"+a+"</a></p><p>"+a+"</a></p><table><row><cell>"+b+"</cell><cell>"+a+"<b/></a></cell></row></table></doc>")
	taken(t, "around other elements", p("<b>"+a+"<b>k<i>l<span/></i></b></a></b>"))
}

// Attributes.

func TestWhichElementHasWhichAttribute(t *testing.T) {
	well := 0
	good := map[string]string{"id": "k", "class": "k l", "head": "yes", "cols": "2", "rows": "2", "to": "k"}
	for _, name := range names() {
		before, behind := ahead(name)
		if name == "doc" {
			before, behind = "", ""
		} else {
			before = before[:strings.LastIndex(before, "<")]
			behind = strings.TrimPrefix(behind, "</"+name+">")
		}
		within := map[string]string{"table": "<row><cell/></row>", "row": "<cell/>"}[name]
		with := map[string]string{"a": " to=\"z\""}[name]
		for _, a := range []string{"id", "class", "head", "cols", "rows", "to", "x", "ids", "style", "name"} {
			may := slices.Contains([]string{"id", "class"}, a) && name != "sheet" && name != "break" ||
				name == "row" && a == "head" || name == "cell" && (a == "cols" || a == "rows") || name == "a" && a == "to"
			extra := with
			if a == "to" {
				extra = ""
			}
			for _, s := range []string{
				before + "<" + name + extra + " " + a + "=\"" + good[a] + "\">" + within + "</" + name + ">" + behind,
				before + "<" + name + " " + a + "=\"" + good[a] + "\"" + extra + ">" + within + "</" + name + ">" + behind,
				before + "<" + name + " " + a + "=\"" + good[a] + "\"" + extra + "/>" + behind,
			} {
				if within != "" && strings.HasSuffix(s, "/>"+behind) {
					refused(t, a+" at an empty "+name, s, len(before), api.ErrPlace)
				} else if may {
					taken(t, a+" at "+name, s)
					well++
				} else {
					refused(t, a+" at "+name, s, len(before), api.ErrPlace)
				}
			}
		}
	}
	if well != 3*(10*2+2+1)+2*(2+3) {
		t.Error(well)
	}
}

// noNames are texts that are none.
func noNames() []string {
	return []string{"", " ", "A", "Ab", "aB", "9", "9a", "-", "-a", "a b", " a", "a ", "a_b", "a.b", "a\u00e9", "\u00e9", "abcdefghijklmnopq", strings.Repeat("a", 1000), "a\tb", "a\n", "#a", ".a", "a&lt;", "&amp;", "a,b", "a{", "`", "{", "a/", "a:", "a@", "a["}
}

func someNames() []string {
	return []string{"a", "z", "a9", "a-", "a--9", "abcdefghijklmnop", "a0123456789-----", "z999999999999999", "id", "doc", "yes"}
}

func TestIdsAndTargets(t *testing.T) {
	for _, v := range someNames() {
		shows(t, "<doc id=\""+v+"\"/>", having(doc(), "id", v))
		shows(t, "<doc><p id=\""+v+"\"/></doc>", doc(at(5, having(para(), "id", v))))
		shows(t, "<doc><p><a to=\""+v+"\"/></p></doc>", doc(at(5, para(at(8, having(el("a", ""), "to", v))))))
	}
	for _, v := range noNames() {
		refused(t, "an id", "<doc id=\""+v+"\"/>", 0, api.ErrPlace)
		refused(t, "an id", "<doc><p id=\""+v+"\"/></doc>", 5, api.ErrPlace)
		refused(t, "what a link leads to", "<doc><p>x<a to=\""+v+"\"/></p></doc>", 9, api.ErrPlace)
	}
	for c := range 128 {
		if c == '<' || c == '"' || c == '&' {
			continue
		}
		for _, v := range []string{string(rune(c)), "b" + string(rune(c)), string(rune(c)) + "b", "b" + string(rune(c)) + "c"} {
			as(t, "an id", "<doc id=\""+v+"\"/>")
			as(t, "a target", "<doc><p><a to=\""+v+"\"/></p></doc>")
			as(t, "a class", "<doc class=\""+v+"\"/>")
			as(t, "a class", "<doc class=\"k "+v+" l\"/>")
			as(t, "a head", "<doc><table><row head=\""+v+"\"><cell/></row></table></doc>")
			as(t, "cols", "<doc><table><row><cell cols=\""+v+"\"/></row></table></doc>")
		}
	}
}

func TestClasses(t *testing.T) {
	for _, v := range append(someNames(), "a b", "a a", "a b c d", "abcdefghijklmnop abcdefghijklmnop", "x-1 y z9", strings.TrimSpace(strings.Repeat("ab ", 1000)), "a&#32;b", "&#97; &#98;") {
		taken(t, "a class", "<doc class=\""+v+"\"/>")
		taken(t, "a class", "<doc><p><b class=\""+v+"\"/></p></doc>")
	}
	for _, v := range []string{"", " ", "  ", " a", "a ", "a  b", "a   b", " a b", "a b ", "a\tb", "a\nb", "a\rb", "a\u00a0b", "a \tb", "a b C", "a 9", "9 a", "a -", "A b", "abcdefghijklmnopq", "a abcdefghijklmnopq", "abcdefghijklmnopq a", "a,b", "a &#32;b", "a&#9;b", "a b\n"} {
		refused(t, "a class", "<doc class=\""+v+"\"/>", 0, api.ErrPlace)
		refused(t, "a class", "<doc>\n<p><b class=\""+v+"\"/></p></doc>", 9, api.ErrPlace)
	}
}

func TestHeadColsRows(t *testing.T) {
	row := func(v string) string { return "<doc><table><row head=\"" + v + "\"><cell/></row></table></doc>" }
	cell := func(name, v string) string {
		return "<doc><table><row><cell " + name + "=\"" + v + "\"/></row></table></doc>"
	}
	taken(t, "a head", row("yes"))
	taken(t, "a head", row("&#121;es"))
	for _, v := range []string{"", "no", "Yes", "YES", "yes ", " yes", "ye", "yess", "true", "1", "head", "yes yes", "y"} {
		refused(t, "no head", row(v), 12, api.ErrPlace)
	}
	for name, most := range map[string]int{"cols": 16, "rows": 128} {
		for n := -20; n < 300; n++ {
			v := fmt.Sprint(n)
			if n >= 1 && n <= most {
				taken(t, name, cell(name, v))
			} else {
				refused(t, name, cell(name, v), 17, api.ErrPlace)
			}
			for _, wrong := range []string{"0" + v, "00" + v, "+" + v, v + " ", " " + v, v + ".", v + "a", "0x" + v, v + "_0", v + "\u0660", v + "e0", v + "-"} {
				refused(t, name, cell(name, wrong), 17, api.ErrPlace)
			}
		}
		for _, v := range []string{"", " ", "-", "+", "one", "x", "1 1", "\u0661", "\uff11", "1,0", "1e1", "0x1", "1_0", "32768", "65537", "65552", "2147483648", "4294967297", "4294967312", "9223372036854775807", "9223372036854775808", "18446744073709551617", "18446744073709551632", "-18446744073709551615", "340282366920938463463374607431768211457", "1" + strings.Repeat("0", 1000), strings.Repeat("0", 1000) + "1", strings.Repeat("1", 100000)} {
			refused(t, name, cell(name, v), 17, api.ErrPlace)
		}
		taken(t, name, cell(name, "&#49;"))
		taken(t, name, cell(name, "1&#48;"))
	}
}

func TestLinksLead(t *testing.T) {
	for _, s := range []string{"<a/>", "<a></a>", "<a id=\"k\"/>", "<a class=\"to\"/>", "<a id=\"to\" class=\"to to\">x</a>"} {
		refused(t, "an a without a to", "<doc><p>"+s+"</p></doc>", 8, api.ErrPlace)
	}
	taken(t, "one with more", "<doc><p><a id=\"k\" to=\"k\" class=\"k\"/><a class=\"k\" to=\"k\"/></p></doc>")
	taken(t, "one that leads nowhere", "<doc><p><a to=\"nowhere\"/></p></doc>")
}

func TestAttributesInOrder(t *testing.T) {
	shows(t, "<doc class=\"b a\" id=\"c\"/>", having(having(doc(), "class", "b a"), "id", "c"))
	shows(t, "<doc id=\"c\" class=\"b a\"/>", having(having(doc(), "id", "c"), "class", "b a"))
	all := []string{"id=k", "class=l", "cols=3", "rows=4"}
	for i := range 4 {
		for j := range 4 {
			for k := range 4 {
				l := 6 - i - j - k
				if i == j || j == k || i == k || l < 0 || l > 3 {
					continue
				}
				attrs := strings.Join([]string{all[i], all[j], all[k], all[l]}, " ")
				s := strings.NewReplacer("=", "=\"", " ", "\" ").Replace(attrs)
				shows(t, "<doc><table><row><cell "+s+"\"/></row></table></doc>", doc(at(5, el("table", "", at(12, el("row", "", at(17, el("cell", attrs))))))))
			}
		}
	}
	refused(t, "two alike", "<doc id=\"a\" id=\"b\"/>", 0, api.ErrToken)
}

func TestIdsOnce(t *testing.T) {
	in := func(s string) string { return "<doc>" + s + "</doc>" }
	refused(t, "side by side", in("<p id=\"k\"/><p id=\"k\"/>"), 16, api.ErrId)
	refused(t, "that of doc", "<doc id=\"k\"><p id=\"k\"/></doc>", 12, api.ErrId)
	refused(t, "one in the other", in("<p id=\"k\"><b id=\"k\"/></p>"), 15, api.ErrId)
	refused(t, "deep in a closed one", in("<p><b><i id=\"k\"/></b></p><break/><h1><span id=\"k\"/></h1>"), 42, api.ErrId)
	refused(t, "far behind", in("<p id=\"k\"/>"+strings.Repeat("<p>x</p>\n", 1000)+"<h1 id=\"k\"/>"), 5+11+9000, api.ErrId)
	refused(t, "with an entity", in("<p id=\"k\"/><p id=\"&#107;\"/>"), 16, api.ErrId)
	refused(t, "at a table", in("<p id=\"k\"/><table id=\"k\"><row><cell/></row></table>"), 16, api.ErrId)
	refused(t, "at a row and a cell", in("<table><row id=\"k\"><cell id=\"k\"/></row></table>"), 24, api.ErrId)
	refused(t, "at a link", in("<p id=\"k\"><a id=\"k\" to=\"k\"/></p>"), 15, api.ErrId)
	refused(t, "the third", in("<p id=\"k\"/><p id=\"l\"/><p id=\"k\"/>"), 27, api.ErrId)
	taken(t, "unlike", in("<p id=\"k\"/><p id=\"k1\"/><p id=\"k-\"/><p id=\"l\"/>"))
	taken(t, "the same as a class and a target", "<doc id=\"k\" class=\"k\"><p class=\"k\"><a to=\"k\"/><a class=\"k k\" to=\"k\"/></p></doc>")
	taken(t, "ahead of the id", in("<p class=\"k\"><a to=\"k\"/></p><p id=\"k\"/>"))
	var many strings.Builder
	for i := range 4095 {
		fmt.Fprintf(&many, "<p id=\"k%d\"/>", i)
	}
	taken(t, "many", in(many.String()))
	for _, i := range []int{0, 1, 2000, 4093} {
		s := strings.TrimSuffix(many.String(), "<p id=\"k4094\"/>")
		refused(t, "one of many", in(s+fmt.Sprintf("<p id=\"k%d\"/>", i)), 5+len(s), api.ErrId)
	}
}

// Limits.

func TestNest(t *testing.T) {
	for _, name := range []string{"b", "i", "span"} {
		for _, in := range []struct{ before, behind string }{{"<doc><p>", "</p></doc>"}, {"<doc><table><row><cell>", "</cell></row></table></doc>"}} {
			room := 32 - strings.Count(in.before, "<")
			open, end := "<"+name+">", "</"+name+">"
			s := in.before + strings.Repeat(open, room)
			close := strings.Repeat(end, room) + in.behind
			taken(t, "deep", s+close)
			taken(t, "deep, with a text", s+"x"+close)
			taken(t, "deep, an empty tag", s[:len(s)-len(open)]+"<"+name+"/>"+close[len(end):])
			refused(t, "too deep", s+open+end+close, len(s), api.ErrDeep)
			refused(t, "too deep, an empty tag", s+"<"+name+"/>"+close, len(s), api.ErrDeep)
			refused(t, "too deep, behind a text", s+"x"+open+end+close, len(s)+1, api.ErrDeep)
			refused(t, "too deep, a link", s+"<a to=\"x\"/>"+close, len(s), api.ErrDeep)
			less := s[:len(s)-len(open)]
			taken(t, "deep twice", less+open+end+"x"+open+"y"+end+close[len(end):])
			refused(t, "too deep the second time", less+open+end+open+open, len(less)+2*len(open)+len(end), api.ErrDeep)
			refused(t, "not closed", s, len(s), api.ErrTree)
		}
	}
	link := "<doc><p>" + strings.Repeat("<b>", 29) + "<a to=\"x\">"
	taken(t, "a link", link+"x</a>"+strings.Repeat("</b>", 29)+"</p></doc>")
	refused(t, "in a link", link+"<b/></a>", len(link), api.ErrDeep)
	refused(t, "a link in it", link+"<a to=\"y\"/></a>", len(link), api.ErrPlace)
	deep := "<doc><p>" + strings.Repeat("<b>", 100000)
	refused(t, "very deep", deep, 8+3*30, api.ErrDeep)
}

func TestManyNodes(t *testing.T) {
	in := func(s string) string { return "<doc>" + s + "</doc>" }
	ps := func(n int) string { return strings.Repeat("<p/>", n) }
	taken(t, "as many as may be", in(ps(4095)))
	refused(t, "an empty tag more", in(ps(4096)), 5+4*4095, api.ErrLong)
	refused(t, "an opening tag more", in(ps(4095)+"<p></p>"), 5+4*4095, api.ErrLong)
	refused(t, "many more", in(ps(50000)), 5+4*4095, api.ErrLong)
	taken(t, "texts count", in("<p>x</p>"+ps(4093)))
	refused(t, "a text more", in(ps(4094)+"<p>x</p>"), 5+4*4094+3, api.ErrLong)
	refused(t, "a text of blanks more", in(ps(4094)+"<h1>\n</h1>"), 5+4*4094+4, api.ErrLong)
	refused(t, "an element more behind a text", in("<p>x</p>"+ps(4094)), 5+8+4*4093, api.ErrLong)
	taken(t, "a text as the last", in(ps(4093)+"<p>x</p>"))
	spaced := strings.Repeat("\n<p/>", 4095)
	taken(t, "what is left out does not count", " "+in(spaced+" ")+"\n")
	refused(t, "one more", in(spaced+" <p/>"), 5+5*4095+1, api.ErrLong)
	taken(t, "a table", in(ps(4092)+" <table> <row> <cell/> </row> </table> "))
	refused(t, "a table more", in(ps(4093)+"<table><row><cell/></row></table>"), 5+4*4093+12, api.ErrLong)
	refused(t, "a sheet's text", in("<sheet>x</sheet>"+ps(4094)), 5+16+4*4093, api.ErrLong)
	taken(t, "a sheet's text", in("<sheet>x</sheet>"+ps(4093)))
	inline := "<p>" + strings.Repeat("x<b/>", 2047)
	taken(t, "texts and elements", in(inline+"</p>"))
	refused(t, "a text more", in(inline+"y</p>"), 5+len(inline), api.ErrLong)
	refused(t, "an element more", in(inline+"<b/></p>"), 5+len(inline), api.ErrLong)
	refused(t, "not closed", "<doc>"+ps(4095), 5+4*4095, api.ErrTree)
}

// Tags that close, and what is not closed.

func TestClosingTags(t *testing.T) {
	for _, in := range names() {
		before, behind := ahead(in)
		within := map[string]string{"table": "<row><cell/></row>", "row": "<cell/>"}[in]
		for _, name := range append(names(), "q") {
			if name != in {
				refused(t, "another tag closes", before+"</"+name+">"+behind, len(before), api.ErrTree)
				refused(t, "another tag closes", before+within+"</"+name+">"+behind, len(before)+len(within), api.ErrTree)
			}
			if name != "doc" && in != "doc" {
				refused(t, "nothing is open", before+within+behind+"</"+name+">", len(before)+len(within)+len(behind), api.ErrTree)
			}
		}
		refused(t, "closed twice", before+within+"</"+in+"></"+in+">", len(before)+len(within)+len("</"+in+">"), api.ErrTree)
		refused(t, "not closed", before, len(before), api.ErrTree)
		refused(t, "not closed", before+within, len(before)+len(within), api.ErrTree)
		if in != "break" {
			refused(t, "not closed, and blanks", before+within+" \n", len(before)+len(within)+2, api.ErrTree)
		}
		for i := range len(behind) {
			if behind[i] == '<' {
				refused(t, "not all is closed", before+within+behind[:i], len(before)+len(within)+i, api.ErrTree)
			}
		}
	}
	refused(t, "behind doc", "<doc/></doc>", 6, api.ErrTree)
	refused(t, "ahead of doc", "</doc>", 0, api.ErrTree)
	refused(t, "the other way round", "<doc><p><b><i></b></i></p></doc>", 14, api.ErrTree)
	refused(t, "closed though it is empty", "<doc><p/></p></doc>", 9, api.ErrTree)
	refused(t, "in bytes", "<doc><p>\u20ac\u00e9\U0001f600&#8364;", 8+3+2+4+7, api.ErrTree)
	taken(t, "with a blank", "<doc ><p\n></p\t></doc >")
}

// The order of faults.

func TestScansErrorsAreFirst(t *testing.T) {
	for _, x := range []struct {
		s   string
		at  int
		err api.Errno
	}{
		{"<doc><p>&x;</p></doc>", 8, api.ErrToken}, {"<doc><P/></doc>", 5, api.ErrToken}, {"\xff", 0, api.ErrUtf}, {"<doc>\x01</doc>", 5, api.ErrToken},
		{"<q/>\xff", 4, api.ErrUtf}, {"x<doc><p>&x;", 9, api.ErrToken}, {"</doc><", 6, api.ErrToken}, {"<doc/><doc/><p", 12, api.ErrToken},
		{"<doc><a/><p id=\"a\"/><p id=\"a\"/>\xe2\x82", 31, api.ErrUtf}, {"<doc>x</doc>&", 12, api.ErrToken}, {"<doc><table/>\x7f", 13, api.ErrToken},
		{"<doc>" + strings.Repeat("<p/>", 5000) + "<p", 20005, api.ErrToken}, {"<doc><p>" + strings.Repeat("<b>", 50) + "<b x>", 158, api.ErrToken}, {"<doc><p", 5, api.ErrToken},
		{"<doc><p x=\"\" x=\"\"/></doc>", 5, api.ErrToken},
		{strings.Repeat(" ", mostBytes) + "<", 0, api.ErrLong}, {"<q/>" + strings.Repeat(" ", mostBytes), 0, api.ErrLong}, {strings.Repeat("\xff", mostBytes+1), 0, api.ErrLong},
	} {
		refused(t, "Scan's", x.s, x.at, x.err)
	}
	full := "<doc><p>" + strings.Repeat("x", mostBytes-18) + "</p></doc>"
	taken(t, "as long as may be", full)
	refused(t, "a byte more", full+" ", 0, api.ErrLong)
	refused(t, "not closed at the greatest length", strings.TrimSuffix(full, "</doc>")+"      ", mostBytes, api.ErrTree)
	refused(t, "blanks of the greatest length", strings.Repeat(" ", mostBytes), mostBytes, api.ErrTree)
}

// Of one token that is wrong in two ways the error that is named first.
func TestTokensThatAreWrongInTwoWays(t *testing.T) {
	in := func(s string) string { return "<doc>" + s + "</doc>" }
	// ErrTree and others.
	refused(t, "ErrTree, ErrPlace", "<q/>", 0, api.ErrTree)
	refused(t, "ErrTree, ErrPlace", "<p x=\"\"/>", 0, api.ErrTree)
	refused(t, "ErrTree, ErrPlace", "<doc/><doc x=\"\"/>", 6, api.ErrTree)
	refused(t, "ErrTree, ErrPlace", "<table/>", 0, api.ErrTree)
	refused(t, "ErrTree, ErrPlace", "<doc/><a/>", 6, api.ErrTree)
	refused(t, "ErrTree, ErrPlace", in("<table></row></table>"), 12, api.ErrTree)
	refused(t, "ErrTree, ErrPlace", in("<table></doc>"), 12, api.ErrTree)
	refused(t, "ErrTree, ErrId", "<doc id=\"a\"/><doc id=\"a\"/>", 13, api.ErrTree)
	refused(t, "ErrTree, ErrId", "<doc id=\"a\"/><p id=\"a\"/>", 13, api.ErrTree)
	full := in(strings.Repeat("<p/>", 4095))
	refused(t, "ErrTree, ErrLong", full+"<doc/>", len(full), api.ErrTree)
	refused(t, "ErrTree, ErrLong", full+"<p>", len(full), api.ErrTree)
	refused(t, "ErrTree, ErrLong", full+"x", len(full), api.ErrTree)
	// ErrPlace and others.
	refused(t, "ErrPlace, ErrId", in("<p id=\"a\"/><q id=\"a\"/>"), 16, api.ErrPlace)
	refused(t, "ErrPlace, ErrId", in("<p id=\"a\"/><p id=\"a\" x=\"\"/>"), 16, api.ErrPlace)
	refused(t, "ErrPlace, ErrId", in("<p id=\"a\"/><p id=\"a\" class=\"\"/>"), 16, api.ErrPlace)
	refused(t, "ErrPlace, ErrId", in("<p id=\"a\"><a id=\"a\"/></p>"), 15, api.ErrPlace)
	refused(t, "ErrPlace, ErrId", in("<p id=\"a\"/><row id=\"a\"/>"), 16, api.ErrPlace)
	refused(t, "ErrPlace, ErrId", in("<p id=\"a\"/><sheet id=\"a\"/>"), 16, api.ErrPlace)
	deep := "<doc><p>" + strings.Repeat("<b>", 30)
	refused(t, "ErrPlace, ErrDeep", deep+"<p/>", len(deep), api.ErrPlace)
	refused(t, "ErrPlace, ErrDeep", deep+"<b x=\"\">", len(deep), api.ErrPlace)
	refused(t, "ErrPlace, ErrDeep", deep+"<a/>", len(deep), api.ErrPlace)
	most := "<doc>" + strings.Repeat("<p/>", 4095)
	refused(t, "ErrPlace, ErrLong", most+"<q/>", len(most), api.ErrPlace)
	refused(t, "ErrPlace, ErrLong", most+"<p x=\"\"/>", len(most), api.ErrPlace)
	refused(t, "ErrPlace, ErrLong", most+"<sheet/>", len(most), api.ErrPlace)
	refused(t, "ErrPlace, ErrLong", most+"x", len(most), api.ErrPlace)
	refused(t, "ErrPlace, ErrLong", most[:len(most)-4]+"<break>x", len(most)+3, api.ErrPlace)
	// ErrId and others.
	refused(t, "ErrId, ErrDeep", strings.Replace(deep, "<p>", "<p id=\"a\">", 1)+"<b id=\"a\"/>", len(deep)+7, api.ErrId)
	refused(t, "ErrId, ErrLong", strings.Replace(most, "<p/>", "<p id=\"a\"/>", 1)+"<p id=\"a\"/>", len(most)+7, api.ErrId)
	// ErrDeep and ErrLong.
	many := "<doc>" + strings.Repeat("<p/>", 4064) + "<p>" + strings.Repeat("<b>", 30)
	refused(t, "ErrDeep, ErrLong", many+"<b/>", len(many), api.ErrDeep)
	refused(t, "ErrDeep, ErrLong", many+"<b></b>", len(many), api.ErrDeep)
	refused(t, "ErrLong alone", many+"x", len(many), api.ErrLong)
	few := strings.Replace(many, "<p/>", "", 1)
	refused(t, "ErrDeep alone", few+"<b/>", len(few), api.ErrDeep)
	// An empty tag that must not be one is asked for all else ahead of that.
	refused(t, "ErrId, then nothing in it", in("<p id=\"a\"/><table id=\"a\"/>"), 16, api.ErrId)
	refused(t, "ErrLong, then nothing in it", most+"<table/>", len(most), api.ErrLong)
	refused(t, "ErrPlace both", in("<table x=\"\"/>"), 5, api.ErrPlace)
}

func TestTheFirstWrongToken(t *testing.T) {
	in := func(s string) string { return "<doc>" + s + "</doc>" }
	faults := []struct {
		s   string
		at  int
		err api.Errno
	}{
		{"</q>", 0, api.ErrTree}, {"<q/>", 0, api.ErrPlace}, {"x", 0, api.ErrPlace}, {"<p x=\"\"/>", 0, api.ErrPlace}, {"<p id=\"a\"/><p id=\"a\"/>", 11, api.ErrId},
		{"<p>" + strings.Repeat("<b>", 31), 93, api.ErrDeep}, {strings.Repeat("<p/>", 4096), 4 * 4095, api.ErrLong}, {"<table/>", 0, api.ErrPlace}, {"<table></table>", 7, api.ErrPlace}, {"<p><a/>", 3, api.ErrPlace},
	}
	for _, x := range faults {
		refused(t, "one fault", in(x.s), 5+x.at, x.err)
		for _, y := range faults {
			refused(t, "two faults", in(x.s+"<h1/>"+y.s), 5+x.at, x.err)
		}
		refused(t, "and not closed", "<doc>"+x.s, 5+x.at, x.err)
		refused(t, "and something behind doc", in(x.s)+"<q/>", 5+x.at, x.err)
		refused(t, "behind something ahead of doc", "y"+in(x.s), 0, api.ErrTree)
		refused(t, "behind a doc", "<doc/>"+in(x.s), 6, api.ErrTree)
	}
}

// Places.

func TestPlacesBehindCharactersOfEachLength(t *testing.T) {
	for _, c := range []string{"a", "\u00e9", "\u20ac", "\U0001f600", "a\u00e9\u20ac\U0001f600", "&lt;", "&#233;", "&#128512;\u20ac"} {
		n := len(c)
		said := strings.NewReplacer("&lt;", "<", "&#233;", "\u00e9", "&#128512;", "\U0001f600").Replace(c)
		shows(t, "<doc><p>"+c+"<b>"+c+"</b>"+c+"</p><h1>"+c+"</h1></doc>", doc(
			at(5, para(at(8, text(said)), at(8+n, el("b", "", at(11+n, text(said)))), at(15+2*n, text(said)))),
			at(19+3*n, el("h1", "", at(23+3*n, text(said))))))
		s := "<doc><sheet>" + c + "</sheet><p>" + c
		refused(t, "a place", s+"<q/>", len(s), api.ErrPlace)
		refused(t, "a place", s+"</q>", len(s), api.ErrTree)
		refused(t, "a place", s, len(s), api.ErrTree)
		refused(t, "a place", s+"<b>"+c+"</p>", len(s)+3+n, api.ErrTree)
		refused(t, "a place", s+"<b id=\"a\">"+c+"</b><b id=\"a\"/>", len(s)+14+n, api.ErrId)
		refused(t, "a place", s+"</p>\n"+c, len(s)+4, api.ErrPlace)
		refused(t, "a place", s+"</p></doc>\n\n<p/>", len(s)+12, api.ErrTree)
		refused(t, "a place", s+"</p></doc>\n\n"+c, len(s)+10, api.ErrTree)
	}
}
