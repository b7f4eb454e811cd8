package tree_test

import (
	"fmt"
	"slices"
	"strings"
	"testing"
	"unsafe"

	"colophon/api"
	"colophon/tree"
)

// Documents as if by chance.

// author writes documents that are mostly well.
type author struct {
	next  func(below int) int
	parts []string
	ids   int
}

func (a *author) write(parts ...string) { a.parts = append(a.parts, parts...) }

func (a *author) one(l ...string) string { return l[a.next(len(l))] }

func (a *author) blanks() {
	if a.next(3) == 0 {
		a.write(a.one(" ", "\n", "\t\r\n", "&#32;", " &#9;"))
	}
}

func (a *author) words() {
	for range a.next(4) {
		a.write(a.one("a", "word", " ", "\n", " x ", ">", "&lt;", "&amp;b", "\u00e9", "\u20ac", "\U0001f600", "&#32;", "&#8364;", "\u00a0"))
	}
}

// open is an opening tag but for its end.
func (a *author) open(name string) string {
	s := "<" + name
	if name == "a" {
		s += " to=\"" + a.one("k1", "k2", "nowhere") + "\""
	}
	if a.next(5) == 0 {
		a.ids++
		s += fmt.Sprintf(" id=\"k%d\"", a.ids)
	}
	if a.next(5) == 0 {
		s += " class=\"" + a.one("x", "x y", "k1 k1", "abcdefghijklmnop") + "\""
	}
	if name == "row" && a.next(3) == 0 {
		s += " head=\"yes\""
	}
	if name == "cell" && a.next(3) == 0 {
		s += a.one(" cols=\"2\"", " rows=\"3\"", " cols=\"16\" rows=\"128\"", " rows=\"99\"")
	}
	return s
}

// element writes an element with what another function writes in it, if that is
// something.
func (a *author) element(name string, within func()) {
	if within == nil {
		a.write(a.open(name) + a.one("/>", "></"+name+">"))
		return
	}
	a.write(a.open(name) + ">")
	within()
	a.write("</" + name + ">")
}

// inline writes what stands in a p.
func (a *author) inline(deep int, linked bool) func() {
	return func() {
		a.words()
		for range a.next(3) {
			name := a.one("b", "i", "span", "a")
			if linked && name == "a" {
				name = "b"
			}
			if deep > 4 || a.next(4) == 0 {
				a.element(name, nil)
			} else {
				a.element(name, a.inline(deep+1, linked || name == "a"))
			}
			a.words()
		}
	}
}

// several writes so many elements, and one more, with blanks around them.
func (a *author) several(many int, name string, within func()) func() {
	return func() {
		a.blanks()
		for range 1 + a.next(many) {
			a.element(name, within)
			a.blanks()
		}
	}
}

func (a *author) block() {
	name := a.one("h1", "h2", "h3", "p", "p", "table", "break")
	switch name {
	case "table":
		a.element("table", a.several(2, "row", a.several(2, "cell", a.inline(3, false))))
	case "break":
		a.write(a.one("<break/>", "<break></break>", "<break />"))
	default:
		a.element(name, a.inline(0, false))
	}
}

func (a *author) document() {
	a.blanks()
	a.element("doc", func() {
		a.blanks()
		if a.next(3) == 0 {
			a.write("<sheet>")
			a.words()
			a.write("</sheet>")
		}
		a.blanks()
		for range a.next(4) {
			a.block()
			a.blanks()
		}
	})
	a.blanks()
}

// err puts a fault in.
func (a *author) err() {
	at := a.next(len(a.parts))
	other := a.one("x", " ", "<b>", "</b>", "<p/>", "</p>", "<sheet/>", "<break/>", "<table>", "<row>", "<cell>", "<a to=\"x\">", "<a>", "<doc>", "</doc>", "<doc/>", "<q/>", "<p id=\"k1\"/>", "<b id=\"k1\"/>", "<a to=\"k1\" id=\"k2\">", "<row/>", "<table/>", "<", ">", "&", "\xff", "\x01")
	switch a.next(5) {
	case 0:
		a.parts = slices.Delete(a.parts, at, at+1)
	case 1:
		a.parts = slices.Insert(a.parts, at, other)
	case 2:
		a.parts[at] = other
	case 3:
		// What stands in a tag becomes something else.
		a.parts[at] = strings.Replace(a.parts[at], a.one("<p", "<b", "k", "x", "yes", "16", "1", "/", "id=", "class=", "\" "), a.one("<h1", "<i", "K", " x", "no", "17", "01", "", "to=", "cols=", "\" z=\"\" ", "\"  "), 1)
	default:
		with := a.next(len(a.parts))
		a.parts[at], a.parts[with] = a.parts[with], a.parts[at]
	}
}

func documentOf(seed int) string {
	a := author{next: numbers(seed)}
	a.document()
	for range a.next(4) - 1 {
		if len(a.parts) > 0 {
			a.err()
		}
	}
	return strings.Join(a.parts, "")
}

func TestManyDocuments(t *testing.T) {
	count := map[api.Errno]int{}
	for seed := range 30000 {
		count[as(t, fmt.Sprint("seed ", seed), documentOf(seed))]++
	}
	if count[api.OK] < 10000 || count[api.ErrTree] < 3000 || count[api.ErrPlace] < 3000 || count[api.ErrToken] < 1000 || count[api.ErrId] < 30 {
		t.Errorf("%v", count)
	}
}

func TestAllShortDocuments(t *testing.T) {
	for _, l := range []struct {
		before, behind string
		parts          []string
	}{
		{"", "", []string{"<doc>", "</doc>", "<doc/>", " ", "x", "<p/>", "<p>", "</p>"}},
		{"<doc>", "</doc>", []string{"<p>", "</p>", "<b>", "</b>", "<a to=\"x\">", "</a>", "x", " "}},
		{"<doc>", "</doc>", []string{"<table>", "</table>", "<row>", "</row>", "<cell>", "</cell>", " ", "<cell/>"}},
		{"<doc><table>", "</table></doc>", []string{"<row>", "</row>", "<cell>", "</cell>", "<row/>", "<b/>", "\n"}},
		{"<doc>", "</doc>", []string{"<sheet>", "</sheet>", "<sheet/>", "x", "\n", "<p/>", "<break/>", "<break>", "</break>"}},
		{"<doc id=\"k\">", "</doc>", []string{"<p id=\"k\"/>", "<p id=\"l\"/>", "<p id=\"l\">", "</p>", "<b id=\"l\"/>", "<b id=\"m\"/>", "x"}},
	} {
		rows := []string{""}
		for range 5 {
			var longer []string
			for _, s := range rows {
				for _, p := range l.parts {
					longer = append(longer, s+p)
				}
			}
			rows = longer
			for _, s := range rows {
				as(t, "short", l.before+s+l.behind)
			}
		}
	}
}

// Each byte, and each piece, of a document, left out, doubled, or another one.
func TestEachByte(t *testing.T) {
	const s = " <doc id=\"d\"><sheet>x</sheet>\n<p class=\"a b\">k<b>\u00e9</b><a to=\"d\">l</a></p><table><row head=\"yes\"> <cell cols=\"12\" rows=\"99\"/></row></table></doc>\n"
	if as(t, "as it is", s) != api.OK {
		t.Error("not well")
	}
	for i := range len(s) {
		as(t, "a byte less", s[:i]+s[i+1:])
		as(t, "a byte twice", s[:i]+s[i:i+1]+s[i:])
		as(t, "cut off", s[:i])
		as(t, "from here on", s[i:])
		for _, b := range []string{"<", ">", "/", "\"", " ", "a", "b", "p", "x", "0", "1", "9", "-", "A", "=", "&", "\n", "\x00", "\xff", "\u00e9"} {
			as(t, "another byte", s[:i]+b+s[i+1:])
			as(t, "a byte more", s[:i]+b+s[i:])
		}
	}
	pieces := strings.SplitAfter(strings.ReplaceAll(s, "<", "\x00<"), "\x00")
	for i := range pieces {
		pieces[i] = strings.TrimSuffix(pieces[i], "\x00")
	}
	for i := range pieces {
		as(t, "a piece less", strings.Join(slices.Delete(slices.Clone(pieces), i, i+1), ""))
		for j := range pieces {
			as(t, "a piece more", strings.Join(slices.Insert(slices.Clone(pieces), i, pieces[j]), ""))
			other := slices.Clone(pieces)
			other[i], other[j] = other[j], other[i]
			as(t, "another order", strings.Join(other, ""))
			for k := i; k <= j; k++ {
				as(t, "pieces less", strings.Join(slices.Delete(slices.Clone(pieces), i, k+1), ""))
			}
		}
	}
}

// Nodes as if by chance.

// someNode is mostly one that stands in such an element of a tree.
func someNode(next func(below int) int, in string, deep int) api.Node {
	one := func(l ...string) string { return l[next(len(l))] }
	n := api.Node{At: next(100) - 50}
	may := strings.Fields(mayHold()[in])
	if next(40) == 0 {
		may = names()
	}
	if len(may) == 0 || len(may) < 5 && next(2) == 0 && in != "table" && in != "row" {
		n.Text = one("a", "a b", " ", "x\n", "<b/>", "&amp;", "\u20ac")
		return n
	}
	n.Name = may[next(len(may))]
	if n.Name == "sheet" && next(4) > 0 {
		n.Name = "p"
	}
	if n.Name == "a" {
		n.Attrs = append(n.Attrs, api.Attr{Name: "to", Value: one("x", "y")})
	}
	if n.Name != "sheet" && n.Name != "break" && next(5) == 0 {
		n.Attrs = append(n.Attrs, api.Attr{Name: one("id", "class"), Value: fmt.Sprint("k", next(1000000))})
	}
	n.Kids = someKids(next, n.Name, deep+1)
	return n
}

func someKids(next func(below int) int, name string, deep int) []api.Node {
	var l []api.Node
	least := 0
	if name == "table" || name == "row" {
		least = 1
	}
	if name == "break" || deep > 6 {
		return nil
	}
	for range least + next(3) {
		k := someNode(next, name, deep)
		if k.Name == "" && len(l) > 0 && (l[len(l)-1].Name == "" || name == "sheet") && next(10) > 0 {
			continue
		}
		l = append(l, k)
	}
	return l
}

// spoil puts a fault in a node, or in one of those in it.
func spoil(next func(below int) int, n *api.Node) {
	one := func(l ...string) string { return l[next(len(l))] }
	for len(n.Kids) > 0 && next(4) > 0 {
		n = &n.Kids[next(len(n.Kids))]
	}
	switch next(8) {
	case 0:
		n.Name = one("", "P", "q", "b", "p", "a", "doc", "sheet", "row", "cell", "table", "break", "p ")
	case 1:
		n.Text += one("x", "\x01", "\xff", "", " ")
	case 2:
		n.Text = ""
	case 3:
		n.Attrs = append(n.Attrs, api.Attr{Name: one("", "id", "class", "to", "head", "cols", "rows", "x"), Value: one("", "x", "yes", "2", "x y", "X", "17")})
	case 4:
		n.Kids = append(n.Kids, api.Node{Text: one("x", " ", "", "\n")})
	case 5:
		n.Kids = append(n.Kids, api.Node{Name: one("b", "p", "q", "cell", "row", "break", "sheet")})
	case 6:
		n.Kids = nil
	default:
		n.Attrs = nil
	}
}

func nodeOf(seed int) api.Node {
	next := numbers(seed)
	n := api.Node{Name: "doc", Kids: someKids(next, "doc", 0)}
	for range next(4) - 1 {
		spoil(next, &n)
	}
	return n
}

// anyNode is no tree at all.
func anyNode(next func(below int) int, deep int) api.Node {
	one := func(l ...string) string { return l[next(len(l))] }
	n := api.Node{Name: one("", "", "p", "h1", "h2", "h3", "cell", "sheet", "b", "q"), Text: one("", "a", " ", "a b", " a", "b ", "\n", "\xff", "\u00a0")}
	if next(8) == 0 {
		n.Attrs = append(n.Attrs, api.Attr{Name: one("", "x", "id"), Value: one("", "y")})
	}
	for range next(6 - deep) {
		n.Kids = append(n.Kids, anyNode(next, deep+1))
	}
	return n
}

func TestManyNodesPrinted(t *testing.T) {
	count := map[api.Errno]int{}
	for seed := range 30000 {
		count[prints(t, fmt.Sprint("seed ", seed), nodeOf(seed))]++
	}
	for seed := range 5000 {
		next := numbers(seed)
		prints(t, fmt.Sprint("any, seed ", seed), anyNode(next, 0))
		prints(t, fmt.Sprint("any in a doc, seed ", seed), doc(anyNode(next, 2)))
	}
	if count[api.OK] < 5000 || count[api.ErrTree] < 5000 || len(count) > 2 {
		t.Errorf("%v", count)
	}
}

func TestWordsOfManyNodes(t *testing.T) {
	some := 0
	for seed := range 30000 {
		n := nodeOf(seed)
		if seed%2 == 0 {
			n = anyNode(numbers(seed), 0)
		}
		got, want := tree.Words(n), modelWords(n)
		if !slices.Equal(got, want) {
			t.Errorf("Words(%s) is %q; asked: %q", tell(n), got, want)
		}
		if len(got) > 3 {
			some++
		}
		for _, name := range []string{"", "x", "id", "class", "to"} {
			v, ok := tree.Attr(n, name)
			if w, is := modelAttr(n, name); v != w || ok != is {
				t.Errorf("Attr(%s, %q) is %q, %v", tell(n), name, v, ok)
			}
		}
		other := anyNode(numbers(seed/7), 0)
		same(t, n, other, modelSame(n, other))
		same(t, n, n, true)
		if len(n.Kids) > 0 {
			other := doc(n)
			other.Kids = slices.Clone(other.Kids)
			other.Kids[0].Kids = slices.Clone(n.Kids)
			spoil(numbers(seed), &other.Kids[0].Kids[0])
			same(t, other, doc(n), modelSame(other, doc(n)))
		}
	}
	if some < 5000 {
		t.Errorf("only %d have words", some)
	}
}

// P18.4

func TestWhatIsPrintedIsParsedAsItself(t *testing.T) {
	well := 0
	for seed := range 20000 {
		n := nodeOf(seed)
		s, err := tree.Print(n)
		if err != api.OK {
			continue
		}
		well++
		back, at, err := tree.Parse(s)
		if !tree.Same(back, n) || !modelSame(back, n) || at != 0 || err != api.OK {
			t.Errorf("Parse(%s) is %s, %d, %v; printed of %s", tell(s), tell(back), at, err, tell(n))
		}
	}
	if well < 4000 {
		t.Errorf("only %d are printed", well)
	}
}

func TestWhatIsParsedIsPrintedAndParsedAlike(t *testing.T) {
	well := 0
	for seed := range 20000 {
		s := documentOf(seed)
		n, _, err := tree.Parse(s)
		if err != api.OK {
			continue
		}
		well++
		printed, err := tree.Print(n)
		back, at, e := tree.Parse(printed)
		if !tree.Same(back, n) || !modelSame(back, n) || at != 0 || err != api.OK || e != api.OK {
			t.Errorf("Parse(%s) is %s; printed as %s, %v, and parsed as %s, %d, %v", tell(s), tell(n), tell(printed), err, tell(back), at, e)
		}
		if again, err := tree.Print(back); again != printed || err != api.OK {
			t.Errorf("Print(%s) is %s, %v; before: %s", tell(back), tell(again), err, tell(printed))
		}
		if !slices.Equal(tree.Words(back), tree.Words(n)) {
			t.Errorf("%s: other words", tell(s))
		}
	}
	if well < 7000 {
		t.Errorf("only %d are parsed", well)
	}
	// What is shorter in a text than Print writes it may be too long to be printed.
	n, _, err := tree.Parse("<doc><p>" + strings.Repeat(">", mostBytes/2) + "</p></doc>")
	if err != api.OK {
		t.Fatal(err)
	}
	unwritten(t, "many >", api.ErrLong, n)
}

// What is told is new memory.

// stretch is the memory of a text, or of a list with its spare room. It holds a
// pointer, not a number, so that this memory is not freed and given to another
// answer while stretches are gathered.
type stretch struct {
	what string
	at   unsafe.Pointer
	size uintptr
}

func (a stretch) from() uintptr { return uintptr(a.at) }
func (a stretch) to() uintptr   { return uintptr(a.at) + a.size }

func ofText(what, s string) stretch {
	return stretch{what, unsafe.Pointer(unsafe.StringData(s)), uintptr(len(s))}
}

func ofList[T any](what string, l []T) stretch {
	var x T
	return stretch{what, unsafe.Pointer(unsafe.SliceData(l)), uintptr(cap(l)) * unsafe.Sizeof(x)}
}

func ofNode(what string, n api.Node) []stretch {
	all := []stretch{ofText(what+"'s Name "+n.Name, n.Name), ofText(what+"'s Text "+n.Text, n.Text), ofList(what+"'s Attrs", n.Attrs), ofList(what+"'s Kids", n.Kids)}
	for _, a := range n.Attrs {
		all = append(all, ofText(what+"'s attribute "+a.Name, a.Name), ofText(what+"'s value "+a.Value, a.Value))
	}
	for _, k := range n.Kids {
		all = append(all, ofNode(what, k)...)
	}
	return all
}

func ofWords(what string, l []string) []stretch {
	all := []stretch{ofList(what, l)}
	for _, w := range l {
		all = append(all, ofText(what+"' "+w, w))
	}
	return all
}

// apart fails, unless no two stretches share any memory.
func apart(t *testing.T, l []stretch) {
	t.Helper()
	slices.SortFunc(l, func(a, b stretch) int {
		switch {
		case a.from() < b.from():
			return -1
		case a.from() > b.from():
			return 1
		}
		return 0
	})
	var last stretch
	for _, x := range l {
		if x.size == 0 {
			continue
		}
		if last.size > 0 && last.to() > x.from() {
			t.Errorf("%s and %s share memory", last.what, x.what)
		}
		if x.to() > last.to() {
			last = x
		}
	}
}

func TestNewMemory(t *testing.T) {
	documents := []string{"<doc/>", "<doc><p>x</p></doc>", "<doc><p>plain words</p></doc>", "<doc id=\"a\"><p class=\"a\">a<a to=\"a\">a</a></p></doc>", "<doc><sheet>x</sheet><p>x</p></doc>"}
	for seed := range 3000 {
		documents = append(documents, documentOf(seed))
	}
	for _, s := range documents {
		n, _, _ := tree.Parse(s)
		again, _, _ := tree.Parse(s)
		printed, _ := tree.Print(n)
		next, _ := tree.Print(n)
		all := []stretch{ofText("the text", s), ofText("what is printed", printed), ofText("what is printed next", next)}
		all = slices.Concat(all, ofNode("the tree", n), ofNode("the next tree", again), ofWords("words", tree.Words(n)), ofWords("the next words", tree.Words(n)))
		for _, name := range []string{"id", "class"} {
			v, _ := tree.Attr(n, name)
			w, _ := tree.Attr(n, name)
			all = append(all, ofText("the value "+v, v), ofText("the next value "+w, w))
		}
		apart(t, all)
	}
	for seed := range 3000 {
		// The given nodes share the author's texts; they stand for themselves.
		n := anyNode(numbers(seed), 0)
		given := ofNode("the node", n)
		all := append(ofWords("words", tree.Words(n)), ofWords("the next words", tree.Words(n))...)
		for _, x := range given {
			for _, y := range all {
				if x.size > 0 && y.size > 0 && x.from() < y.to() && y.from() < x.to() {
					t.Errorf("%s and %s share memory", x.what, y.what)
				}
			}
		}
		apart(t, all)
	}
	n := having(para(), "x", strings.Repeat("value", 3))
	v, _ := tree.Attr(n, "x")
	w, _ := tree.Attr(n, "x")
	apart(t, append(ofNode("the node", n), ofText("a value", v), ofText("the next", w)))
}

// room gives each list of a node some spare room with something in it.
func room(n api.Node) api.Node {
	n.Attrs = append(slices.Clip(n.Attrs), api.Attr{Name: "spare", Value: "room"}, api.Attr{})[:len(n.Attrs)]
	kids := append(slices.Clone(n.Kids), api.Node{Name: "spare"}, api.Node{})
	for i := range n.Kids {
		kids[i] = room(n.Kids[i])
	}
	n.Kids = kids[:len(n.Kids)]
	return n
}

// full is a node with the spare room of its lists.
func full(n api.Node) api.Node {
	n.Attrs = slices.Clone(n.Attrs[:cap(n.Attrs)])
	n.Kids = slices.Clone(n.Kids[:cap(n.Kids)])
	for i := range n.Kids {
		n.Kids[i] = full(n.Kids[i])
	}
	return n
}

func TestNothingIsChanged(t *testing.T) {
	for seed := range 3000 {
		n := room(nodeOf(seed))
		other := room(anyNode(numbers(seed), 0))
		before := fmt.Sprintf("%#v %#v", full(n), full(other))
		tree.Print(n)
		tree.Print(other)
		tree.Words(n)
		tree.Words(other)
		tree.Attr(n, "id")
		tree.Same(n, other)
		tree.Same(n, n)
		if after := fmt.Sprintf("%#v %#v", full(n), full(other)); after != before {
			t.Errorf("%s has become %s", before, after)
		}
	}
	b := []byte("<doc id=\"a\"><p class=\"b c\">x &amp; <a to=\"a\">y</a></p><sheet/></doc>")
	s := unsafe.String(&b[0], len(b))
	for _, s := range []string{s, strings.Replace(s, "<sheet/>", "", 1), s[:len(s)-6-8] + s[len(s)-6:]} {
		before := string(b)
		n, at, err := tree.Parse(s)
		if string(b) != before {
			t.Errorf("%s has become %s", before, b)
		}
		// What is told stays as it is, whatever becomes of what was handed in.
		told := fmt.Sprintf("%#v %d %d", n, at, err)
		for i := range b {
			b[i] = '!'
		}
		if after := fmt.Sprintf("%#v %d %d", n, at, err); after != told {
			t.Errorf("%s has become %s", told, after)
		}
		copy(b, before)
	}
}

func TestWhatIsToldStays(t *testing.T) {
	b := []byte("<doc id=\"a\"><p class=\"b c\">x &amp; <a to=\"a\">y</a></p></doc>")
	n, _, err := tree.Parse(unsafe.String(&b[0], len(b)))
	if err != api.OK {
		t.Fatal(err)
	}
	value := []byte("value")
	of := api.Node{Name: "p", Attrs: []api.Attr{{Name: "x", Value: unsafe.String(&value[0], 5)}}, Kids: []api.Node{{Text: unsafe.String(&value[0], 5)}}}
	v, _ := tree.Attr(of, "x")
	l := tree.Words(of)
	told := fmt.Sprintf("%#v %q %q", n, v, l)
	for i := range b {
		b[i] = '!'
	}
	copy(value, "!!!!!")
	if after := fmt.Sprintf("%#v %q %q", n, v, l); after != told {
		t.Errorf("%s has become %s", told, after)
	}
}

func TestAnswersHangOnTheArgumentsAlone(t *testing.T) {
	ask := func(seed int) string {
		n, at, err := tree.Parse(documentOf(seed))
		s, e := tree.Print(nodeOf(seed))
		v, ok := tree.Attr(n, "id")
		return fmt.Sprintf("%#v %d %d %q %d %q %q %v %v", n, at, err, s, e, tree.Words(n), v, ok, tree.Same(n, nodeOf(seed)))
	}
	var first []string
	for seed := range 2000 {
		first = append(first, ask(seed))
	}
	for seed := 1999; seed >= 0; seed-- {
		if got := ask(seed); got != first[seed] {
			t.Errorf("seed %d: %v; before: %v", seed, got, first[seed])
		}
	}
}

func TestWithAnErrorThereIsNothing(t *testing.T) {
	count := 0
	for seed := range 20000 {
		s := documentOf(seed)
		n, at, err := tree.Parse(s)
		if err != api.OK && !isZero(n) || err == api.OK && (at != 0 || n.Name != "doc") || at < 0 || at > len(s) {
			t.Errorf("Parse(%s) is %s, %d, %v", tell(s), tell(n), at, err)
		}
		if p, err := tree.Print(nodeOf(seed)); (err == api.OK) == (p == "") {
			t.Errorf("seed %d: Print is %s, %v", seed, tell(p), err)
		}
		if err != api.OK {
			count++
		}
	}
	if count < 5000 {
		t.Errorf("only %d have faults", count)
	}
}
