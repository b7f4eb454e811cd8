package marks_test

import (
	"fmt"
	"slices"
	"strings"
	"testing"
	"unsafe"

	"colophon/api"
	"colophon/marks"
)

// Documents as if by chance.

// author writes documents that are mostly well.
type author struct {
	next  func(below int) int
	parts []string
}

func (a *author) write(parts ...string) { a.parts = append(a.parts, parts...) }

func (a *author) one(l ...string) string { return l[a.next(len(l))] }

func (a *author) name() string {
	return a.one("p", "a", "b", "h1", "doc", "x-9", "abcdefghijklmnop", "cell", "id")
}

func (a *author) blanks(least int) {
	for range least + a.next(3)/2 {
		a.write(a.one(" ", " ", "\n", "\t", "\r"))
	}
}

func (a *author) characters() {
	for range a.next(5) {
		a.write(a.one("a", "word", " ", ">", "/", "=", ";", "#", "\u00e9", "\u20ac", "\U0001f600", "\n", "&lt;", "&gt;", "&amp;", "&quot;", "&#65;", "&#8364;", "&#1114111;", "&#10;"))
	}
}

func (a *author) tag() {
	a.write("<")
	if a.next(3) == 0 {
		a.write("/", a.name())
		a.blanks(0)
		a.write(">")
		return
	}
	a.write(a.name())
	for i := range a.next(5) {
		a.blanks(1)
		a.write(a.one(a.name(), fmt.Sprint("a", i), fmt.Sprint("a", i)))
		a.blanks(0)
		a.write("=")
		a.blanks(0)
		a.write("\"")
		a.characters()
		a.write("\"")
	}
	a.blanks(0)
	a.write(a.one(">", ">", "/>"))
}

func (a *author) err() {
	if len(a.parts) == 0 {
		return
	}
	at := a.next(len(a.parts))
	other := a.one("<", ">", "&", "\"", "=", "/", " ", "P", "&x;", "&#0;", "&#55296;", "\x00", "\v", "\x7f", "\u0085", "\xff", "\xe2\x82", "'", "a", ";", "-", "9")
	switch a.next(4) {
	case 0:
		a.parts = slices.Delete(a.parts, at, at+1)
	case 1:
		a.parts = slices.Insert(a.parts, at, other)
	case 2:
		a.parts[at] = other
	default:
		with := a.next(len(a.parts))
		a.parts[at], a.parts[with] = a.parts[with], a.parts[at]
	}
}

func documentOf(seed int) string {
	a := author{next: numbers(seed)}
	for range a.next(9) {
		if a.next(2) == 0 {
			a.tag()
		} else {
			a.characters()
		}
	}
	for range a.next(4) - 1 {
		a.err()
	}
	return strings.Join(a.parts, "")
}

func TestManyDocuments(t *testing.T) {
	count := map[api.Errno]int{}
	for seed := range 40000 {
		count[as(t, fmt.Sprint("seed ", seed), documentOf(seed))]++
	}
	if count[api.OK] < 10000 || count[api.ErrToken] < 10000 || count[api.ErrUtf] < 1000 {
		t.Errorf("%v", count)
	}
}

func TestAllShortTexts(t *testing.T) {
	for _, parts := range [][]string{
		{"<", ">", "/", "a", " ", "=\"", "\"", "&lt;", "&"},
		{"<a", " b=\"", "\"", "/", ">", "\n", "\x01", "\xff", ";"},
		{"&", "#", "1", "0", ";", "l", "t", "<"},
		{"<p a=\"", "\"", ">", "&", "lt", ";", "<", " ", "</p>"},
	} {
		rows := []string{""}
		for range 5 {
			var longer []string
			for _, s := range rows {
				for _, p := range parts {
					longer = append(longer, s+p)
				}
			}
			rows = longer
			for _, s := range rows {
				as(t, "short", s)
			}
		}
	}
}

// Each byte of a document, left out, doubled, or another one.
func TestEachByte(t *testing.T) {
	const s = "<h-1 a=\"&lt;b\"\n c9 = \"\u00e9>/\" />x &amp; &#233;\u20ac\n<p\t></p >&quot;\U0001f600<q z=\"\"/>y"
	if as(t, "as it is", s) != api.OK {
		t.Error("not well")
	}
	for i := range len(s) {
		as(t, "a byte less", s[:i]+s[i+1:])
		as(t, "a byte twice", s[:i]+s[i:i+1]+s[i:])
		as(t, "cut off", s[:i])
		as(t, "from here on", s[i:])
		for c := range 256 {
			b := string([]byte{byte(c)})
			as(t, "another byte", s[:i]+b+s[i+1:])
			as(t, "a byte more", s[:i]+b+s[i:])
		}
	}
}

func TestAnyBytes(t *testing.T) {
	for seed := range 20000 {
		next := numbers(seed)
		const pieces = "<<>>//ab1-=\"\"\"&&;;#lt 	\n\x00\x7f\xc3\xa9\xff"
		s := make([]byte, next(40))
		for i := range s {
			s[i] = pieces[next(len(pieces))]
			if next(20) == 0 {
				s[i] = byte(next(256))
			}
		}
		as(t, fmt.Sprint("seed ", seed), string(s))
	}
}

// P17.3

// someTokens are mostly such as Scan makes.
func someTokens(next func(below int) int) []api.Token {
	one := func(l ...string) string { return l[next(len(l))] }
	var l []api.Token
	for range next(10) {
		x := api.Token{Kind: next(4) + 1, At: next(100) - 50}
		if x.Kind == api.TokText {
			for range next(4) + 1 {
				x.Text += one("a", " ", "<", ">", "&", "\"", "&lt;", "</p>", "\n", "\r\n", "\t", "\u00e9", "\u20ac", "\ufffd", "\U0001f600", ";", "word")
			}
			if len(l) > 0 && l[len(l)-1].Kind == api.TokText && next(50) > 0 {
				continue
			}
		} else {
			x.Name = one("p", "a", "b", "h1", "x-9", "abcdefghijklmnop")
		}
		if x.Kind == api.TokOpen || x.Kind == api.TokEmpty {
			for i := range next(5) {
				x.Attrs = append(x.Attrs, api.Attr{Name: one("a", "id")[:1] + fmt.Sprint(i), Value: one("", "a", "<p a=\"b\">", "&amp;", "\n", "\u20ac>", " x ", "'")})
			}
		}
		l = append(l, x)
	}
	if len(l) > 0 && next(5) == 0 {
		spoil(next, &l[next(len(l))])
	}
	return l
}

// spoil puts a fault in.
func spoil(next func(below int) int, x *api.Token) {
	one := func(l ...string) string { return l[next(len(l))] }
	switch next(6) {
	case 0:
		x.Kind = []int{0, 1, 2, 3, 4, 5, -1}[next(7)]
	case 1:
		x.Name = one("", "P", "-", "p ", "abcdefghijklmnopq", "p>")
	case 2:
		x.Text += one("x", "\x01", "\xff", "\u0085", "<")
	case 3:
		x.Text = ""
	case 4:
		x.Attrs = append(x.Attrs, api.Attr{Name: one("", "a0", "b", "B", "="), Value: one("", "\x02", "\x80", "x")})
	default:
		_, many := many(17)
		x.Attrs = given(many)
	}
}

func TestWhatIsPrintedIsScannedAsItself(t *testing.T) {
	count := map[api.Errno]int{}
	for seed := range 15000 {
		l := someTokens(numbers(seed))
		count[prints(t, fmt.Sprint("seed ", seed), l)]++
		comesBack(t, l)
	}
	if count[api.OK] < 8000 || count[api.ErrToken] < 1000 {
		t.Errorf("%v", count)
	}
	long := []api.Token{text(strings.Repeat("x<", 200000)), open("p", "a", strings.Repeat("\"", 1000)), text(strings.Repeat("\u20ac", 10000)), closing("p")}
	if !comesBack(t, long) || !comesBack(t, slices.Repeat([]api.Token{open("p"), text("x")}, 1000)) {
		t.Error("not printed")
	}
}

// comesBack fails, unless what Print writes of tokens, if they are some, is
// scanned as these with their places, each behind what is written of those ahead.
func comesBack(t *testing.T, l []api.Token) bool {
	t.Helper()
	s, err := marks.Print(l)
	if err != api.OK {
		return false
	}
	want, behind := slices.Clone(l), 0
	for i := range want {
		want[i].At = behind
		behind += len(modelWrite(l[i : i+1]))
	}
	if back, place, err := marks.Scan(s); !equal(back, want) || place != 0 || err != api.OK {
		t.Errorf("Scan(%s) is %s, %d, %v; printed of %s", tell(s), tell(back), place, err, tell(l))
	}
	return true
}

func TestWhatIsScannedIsPrintedAndScannedAlike(t *testing.T) {
	well := 0
	for seed := range 20000 {
		s := documentOf(seed)
		l, _, err := marks.Scan(s)
		if err != api.OK {
			continue
		}
		well++
		printed, err := marks.Print(l)
		back, place, e := marks.Scan(printed)
		if err != api.OK || e != api.OK || place != 0 || !alike(back, l) {
			t.Errorf("Scan(%s) is %s; printed as %s, %v, and scanned as %s, %v", tell(s), tell(l), tell(printed), err, tell(back), e)
		}
		if again, err := marks.Print(back); again != printed || err != api.OK {
			t.Errorf("Print(%s) is %s, %v; before: %s", tell(back), tell(again), err, tell(printed))
		}
	}
	if well < 5000 {
		t.Errorf("only %d are scanned", well)
	}
	// What is shorter in a text than Print writes it may be too long to be printed.
	l, _, err := marks.Scan(strings.Repeat(">", most/2))
	if err != api.OK || len(l) != 1 {
		t.Fatalf("%v", err)
	}
	unwritten(t, "many >", api.ErrLong, l...)
}

func TestEscapedTextsAreScannedAsThemselves(t *testing.T) {
	for seed := range 20000 {
		next := numbers(seed)
		s := ""
		for range next(8) + 1 {
			s += []string{"<", ">", "&", "\"", "a", ";", "#", "lt", "\n", "\t", " ", "\u00e9", "\U0001f600", "="}[next(14)]
		}
		e, err := marks.Escape(s)
		if e != modelEscape(s) || err != api.OK {
			t.Errorf("Escape(%q) is %q, %v", s, e, err)
		}
		shows(t, e, text(s))
		shows(t, "<p a=\""+e+"\">", open("p", "a", s))
	}
}

// What is told is new memory.

// stretch is the memory of a text, or of a list with its spare room. It holds a
// pointer, not a number, so that this memory is not freed and given to another
// answer while stretches are gathered.
type stretch struct {
	what string
	at   unsafe.Pointer
	size uintptr
}

func (a stretch) from() uintptr { return uintptr(a.at) }
func (a stretch) to() uintptr   { return uintptr(a.at) + a.size }

func ofText(what, s string) stretch {
	return stretch{what, unsafe.Pointer(unsafe.StringData(s)), uintptr(len(s))}
}

func ofList[T any](what string, l []T) stretch {
	var x T
	return stretch{what, unsafe.Pointer(unsafe.SliceData(l)), uintptr(cap(l)) * unsafe.Sizeof(x)}
}

func ofTokens(what string, l []api.Token) []stretch {
	all := []stretch{ofList(what, l)}
	for _, x := range l {
		all = append(all, ofText(what+"'s Name "+x.Name, x.Name), ofText(what+"'s Text "+x.Text, x.Text), ofList(what+"'s Attrs", x.Attrs))
		for _, a := range x.Attrs {
			all = append(all, ofText(what+"'s attribute "+a.Name, a.Name), ofText(what+"'s value "+a.Value, a.Value))
		}
	}
	return all
}

// apart fails, unless no two stretches share any memory.
func apart(t *testing.T, l []stretch) {
	t.Helper()
	slices.SortFunc(l, func(a, b stretch) int {
		switch {
		case a.from() < b.from():
			return -1
		case a.from() > b.from():
			return 1
		}
		return 0
	})
	var last stretch
	for _, x := range l {
		if x.size == 0 {
			continue
		}
		if last.size > 0 && last.to() > x.from() {
			t.Errorf("%s and %s share memory", last.what, x.what)
		}
		if x.to() > last.to() {
			last = x
		}
	}
}

func TestNewMemory(t *testing.T) {
	for seed := range 3000 {
		s := documentOf(seed)
		l, _, _ := marks.Scan(s)
		again, _, _ := marks.Scan(s)
		printed, _ := marks.Print(l)
		next, _ := marks.Print(l)
		escaped, _ := marks.Escape(s)
		other, _ := marks.Escape(s)
		all := []stretch{ofText("the text", s), ofText("what is printed", printed), ofText("what is printed next", next), ofText("what is escaped", escaped), ofText("what is escaped next", other)}
		apart(t, slices.Concat(all, ofTokens("a token", l), ofTokens("a token of the next answer", again)))
	}
	for _, s := range []string{"x", "<p>", "</p>", "<p/>", "plain words", "<p a=\"plain\" b=\"words\">", "<p a=\"a\"><p a=\"a\">a<p>a", "p<p p=\"p\"/>"} {
		l, _, _ := marks.Scan(s)
		again, _, _ := marks.Scan(s)
		printed, _ := marks.Print(l)
		escaped, _ := marks.Escape(s)
		apart(t, slices.Concat([]stretch{ofText("the text", s), ofText("printed", printed), ofText("escaped", escaped)}, ofTokens("a token", l), ofTokens("the next one's", again)))
	}
	x := strings.Repeat("x", 3)
	escaped, _ := marks.Escape(x)
	printed, _ := marks.Print([]api.Token{text(x)})
	apart(t, []stretch{ofText("a text", x), ofText("escaped", escaped), ofText("printed", printed)})
}

func TestNothingIsChanged(t *testing.T) {
	for seed := range 3000 {
		l := someTokens(numbers(seed))
		room := append(l, api.Token{Kind: 77, Name: "spare"})[:len(l)]
		for i := range room {
			room[i].Attrs = append(room[i].Attrs, api.Attr{Name: "spare", Value: "room"})[:len(room[i].Attrs)]
		}
		before := fmt.Sprintf("%#v", full(room))
		marks.Print(room)
		if after := fmt.Sprintf("%#v", full(room)); after != before {
			t.Errorf("%s has become %s", before, after)
		}
	}
	b := []byte("<p a=\"&lt;\" b=\"x\">x &amp; y</p>")
	s := unsafe.String(&b[0], len(b))
	before := string(b)
	l, _, _ := marks.Scan(s)
	escaped, _ := marks.Escape(s)
	if string(b) != before {
		t.Errorf("%s has become %s", before, b)
	}
	// What is told stays as it is, whatever becomes of what was handed in.
	told := fmt.Sprintf("%#v %s", l, escaped)
	for i := range b {
		b[i] = '!'
	}
	if after := fmt.Sprintf("%#v %s", l, escaped); after != told {
		t.Errorf("%s has become %s", told, after)
	}
}

// full is a list with its spare room.
func full(l []api.Token) []api.Token {
	l = slices.Clone(l[:cap(l)])
	for i := range l {
		l[i].Attrs = l[i].Attrs[:cap(l[i].Attrs)]
	}
	return l
}

func TestAnswersHangOnTheArgumentsAlone(t *testing.T) {
	type answer struct{ scanned, printed, escaped string }
	ask := func(seed int) answer {
		l, place, err := marks.Scan(documentOf(seed))
		p, e := marks.Print(someTokens(numbers(seed)))
		x, f := marks.Escape(documentOf(seed))
		return answer{fmt.Sprintf("%#v %d %d", l, place, err), fmt.Sprintf("%q %d", p, e), fmt.Sprintf("%q %d", x, f)}
	}
	var first []answer
	for seed := range 2000 {
		first = append(first, ask(seed))
	}
	for seed := 1999; seed >= 0; seed-- {
		if got := ask(seed); got != first[seed] {
			t.Errorf("seed %d: %v; before: %v", seed, got, first[seed])
		}
	}
}

func TestWithAnErrorThereIsNothing(t *testing.T) {
	count := 0
	for seed := range 20000 {
		s := documentOf(seed)
		l, place, err := marks.Scan(s)
		if err != api.OK && l != nil || err == api.OK && place != 0 || place < 0 || place > len(s) {
			t.Errorf("Scan(%s) is %s, %d, %v", tell(s), tell(l), place, err)
		}
		if e, err := marks.Escape(s); err != api.OK && e != "" {
			t.Errorf("Escape(%s) is %s, %v", tell(s), tell(e), err)
		}
		if p, err := marks.Print(someTokens(numbers(seed))); err != api.OK && p != "" {
			t.Errorf("seed %d: Print is %s, %v", seed, tell(p), err)
		}
		if err != api.OK && len(s) > 10 {
			count++
		}
	}
	if count < 5000 {
		t.Errorf("only %d have faults", count)
	}
}
