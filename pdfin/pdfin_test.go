package pdfin

import (
	"fmt"
	"regexp"
	"slices"
	"strconv"
	"strings"
	"testing"

	"colophon/api"
	"colophon/obj"
	"colophon/pdfout"
)

var zero = api.Obj{}

func integer(x int) api.Obj          { return api.Obj{Kind: api.KInt, Num: x} }
func name(s string) api.Obj          { return api.Obj{Kind: api.KName, Text: s} }
func text(s string) api.Obj          { return api.Obj{Kind: api.KString, Text: s} }
func ref(x int) api.Obj              { return api.Obj{Kind: api.KRef, Num: x} }
func array(items ...api.Obj) api.Obj { return api.Obj{Kind: api.KArray, Items: items} }

// dict is made of keys and values by turns.
func dict(pairs ...any) api.Obj {
	o := api.Obj{Kind: api.KDict}
	for i := 0; i < len(pairs); i += 2 {
		o.Keys = append(o.Keys, pairs[i].(string))
		o.Items = append(o.Items, pairs[i+1].(api.Obj))
	}
	return o
}

func plain(o api.Obj) api.Entry               { return api.Entry{Body: o} }
func stream(o api.Obj, data string) api.Entry { return api.Entry{Body: o, Stream: true, Data: data} }
func file(root int, l ...api.Entry) api.File  { return api.File{Entries: l, Root: root} }
func alone(e api.Entry) api.File              { return file(1, e) }

// draft is a file in its pieces, each of which may be set otherwise.
type draft struct {
	header  string
	objects []string // by rising number
	order   []int    // the numbers as they stand; none: rising
	places  func(k, at int) string
	size    string
	first   string
	rows    string // behind those of the objects
	trailer string
	begins  string // ahead of the place of the table
	table   func(at int) string
	ends    string
}

func drawn(root int, objects ...string) draft {
	return draft{
		header:  "%PDF-1.7\n%\xe2\xe3\xcf\xd3\n",
		objects: objects,
		places:  func(k, at int) string { return fmt.Sprintf("%010d", at) },
		size:    strconv.Itoa(len(objects) + 1),
		first:   "\n0000000000 65535 f \n",
		trailer: fmt.Sprintf("trailer\n<</Size %d /Root %d 0 R>>\n", len(objects)+1, root),
		begins:  "startxref\n",
		table:   strconv.Itoa,
		ends:    "\n%%EOF\n",
	}
}

func (d draft) text() string {
	order := d.order
	if order == nil {
		for i := range d.objects {
			order = append(order, i+1)
		}
	}
	at := make([]int, len(d.objects)+1)
	s := []byte(d.header)
	for _, k := range order {
		at[k] = len(s)
		s = append(s, d.objects[k-1]...)
	}
	xref := len(s)
	s = append(s, "xref\n0 "+d.size+d.first...)
	for k := range d.objects {
		s = append(s, d.places(k+1, at[k+1])+" 00000 n \n"...)
	}
	return string(s) + d.rows + d.trailer + d.begins + d.table(xref) + d.ends
}

// one is a file of one object with this text.
func one(object string) string { return drawn(1, object).text() }

// The chapter's words once more, point by point.

var (
	endForm   = regexp.MustCompile(`startxref\n(0|[1-9][0-9]*)\n%%EOF\n\z`)
	tableForm = regexp.MustCompile(`\Axref\n0 (0|[1-9][0-9]*)\n0000000000 65535 f \n((?:[0-9]{10} 00000 n \n)*)trailer\n`)
	blankForm = regexp.MustCompile(`\A[\x09\x0a\x0c\x0d\x20]+`)
)

// behind is what stands behind the text of a form at which s begins.
func behind(form *regexp.Regexp, s string) (string, bool) {
	found := form.FindString(s)
	return s[len(found):], found != ""
}

// stretch is the entry with the number k at which s begins, and its length.
func stretch(s string, k int) (e api.Entry, length int, ok bool) {
	rest, ok := strings.CutPrefix(s, fmt.Sprintf("%d 0 obj", k))
	if _, some := behind(blankForm, rest); !ok || !some {
		return e, 0, false
	}
	o, end, err := obj.Parse(rest, 0)
	if err != api.OK {
		return e, 0, false
	}
	if rest, ok = behind(blankForm, rest[end:]); !ok {
		return e, 0, false
	}
	e = api.Entry{Body: o}
	if data, ok := strings.CutPrefix(rest, "stream\n"); ok {
		i := slices.Index(o.Keys, "Length")
		if o.Kind != api.KDict || i < 0 || o.Items[i].Kind != api.KInt || o.Items[i].Num < 0 || o.Items[i].Num > len(data) {
			return e, 0, false
		}
		e = api.Entry{Body: api.Obj{Kind: api.KDict}, Stream: true, Data: data[:o.Items[i].Num]}
		for j, key := range o.Keys {
			if j != i {
				e.Body.Keys, e.Body.Items = append(e.Body.Keys, key), append(e.Body.Items, o.Items[j])
			}
		}
		if rest, ok = strings.CutPrefix(data[len(e.Data):], "\nendstream"); !ok {
			return e, 0, false
		}
		if rest, ok = behind(blankForm, rest); !ok {
			return e, 0, false
		}
	}
	rest, ok = strings.CutPrefix(rest, "endobj\n")
	return e, len(s) - len(rest), ok
}

// tail reads points 2 and 3.
func tail(s string) (table int, places []int, root int, ok bool) {
	end := endForm.FindStringSubmatchIndex(s)
	if end == nil || end[3]-end[2] > 10 {
		return 0, nil, 0, false
	}
	table, _ = strconv.Atoi(s[end[2]:end[3]])
	if table > end[0] {
		return 0, nil, 0, false
	}
	found := tableForm.FindStringSubmatch(s[table:end[0]])
	if found == nil || len(found[1]) > 4 || fmt.Sprint(len(found[2])/20+1) != found[1] {
		return 0, nil, 0, false
	}
	for row := range slices.Chunk([]byte(found[2]), 20) {
		at, _ := strconv.Atoi(string(row[:10]))
		places = append(places, at)
	}
	rest := s[table+len(found[0]) : end[0]]
	o, at, err := obj.Parse(rest, 0)
	if err != api.OK || blankForm.MatchString(rest) || rest[at:] != "\n" || len(o.Keys) != 2 {
		return 0, nil, 0, false
	}
	r := slices.Index(o.Keys, "Root")
	if r < 0 || o.Keys[1-r] != "Size" || !obj.Same(o.Items[1-r], integer(len(places)+1)) || o.Items[r].Kind != api.KRef || o.Items[r].Num > len(places) {
		return 0, nil, 0, false
	}
	return table, places, o.Items[r].Num, len(places) >= 1 && len(places) <= api.MaxObjects
}

// model reads a file, if it is right.
func model(s string) (api.File, bool) {
	if len(s) < 15 || s[:10] != "%PDF-1.7\n%" || min(s[10], s[11], s[12], s[13]) < 128 || s[14] != '\n' {
		return api.File{}, false
	}
	table, places, root, ok := tail(s)
	if !ok {
		return api.File{}, false
	}
	f := api.File{Root: root}
	covered := make([]int, len(s))
	for i, at := range places {
		if at > len(s) {
			return api.File{}, false
		}
		e, length, ok := stretch(s[at:], i+1)
		if !ok {
			return api.File{}, false
		}
		f.Entries = append(f.Entries, e)
		for j := range length {
			covered[at+j]++
		}
	}
	for i, times := range covered {
		if asked := i >= 15 && i < table; asked != (times == 1) || times > 1 {
			return api.File{}, false
		}
	}
	return f, true
}

func sameEntry(a, b api.Entry) bool {
	return a.Stream == b.Stream && a.Data == b.Data && obj.Same(a.Body, b.Body)
}

func same(a, b api.File) bool {
	return a.Root == b.Root && slices.EqualFunc(a.Entries, b.Entries, sameEntry)
}

// tell is how a file, or a text, is shown: its beginning.
func tell(x any) string {
	s := fmt.Sprintf("%q", fmt.Sprintf("%+v", x))
	return s[:min(len(s), 600)]
}

// right fails, unless a text is read as that file.
func right(t *testing.T, s string, want api.File) {
	t.Helper()
	if got, err := Read(s); err != api.OK || !same(got, want) {
		t.Errorf("%s is read as %s, %v; asked: %s", tell(s), tell(got), err, tell(want))
	}
	if f, ok := model(s); !ok || !same(f, want) {
		t.Errorf("%s: this test's own reader takes it as %s, %v", tell(s), tell(f), ok)
	}
}

// wrong fails, unless a text is refused.
func wrong(t *testing.T, what, s string) {
	t.Helper()
	if f, err := Read(s); err != api.ErrFile || f.Root != 0 || len(f.Entries) != 0 {
		t.Errorf("%s: %s is read as %s, %v", what, tell(s), tell(f), err)
	}
	if f, ok := model(s); ok {
		t.Errorf("%s: %s: this test's own reader takes it as %s", what, tell(s), tell(f))
	}
}

// alike fails, unless a text is read, or refused, as the test's own reader does.
func alike(t *testing.T, s string) bool {
	t.Helper()
	want, ok := model(s)
	got, err := Read(s)
	if ok != (err == api.OK) || !ok && err != api.ErrFile || !same(got, want) {
		t.Errorf("%s is read as %s, %v; asked: %s, %v", tell(s), tell(got), err, tell(want), ok)
	}
	return ok
}

func TestTheChaptersExamples(t *testing.T) {
	const head = "%PDF-1.7\n%\xe2\xe3\xcf\xd3\n"
	const end = "trailer\n<</Size 2 /Root 1 0 R>>\nstartxref\n35\n%%EOF\n"
	const rows = "xref\n0 2\n0000000000 65535 f \n0000000015 00000 n \n"
	null := api.File{Entries: []api.Entry{{}}, Root: 1}
	first := head + "1 0 obj\nnull\nendobj\n" + rows + end
	right(t, first, null)
	right(t, head+"1 0 obj null endobj\n"+rows+end, null)
	if d, err := Start(first); d != 35 || err != api.OK {
		t.Errorf("Start: %d, %v", d, err)
	}
	wrong(t, "a blank behind the header", head+" 1 0 obj\nnull\nendobj\n"+rows+strings.Replace(end, "35", "36", 1))
	wrong(t, "a blank behind the header, and a place that says so", head+" 1 0 obj\nnull\nendobj\n"+strings.Replace(rows, "15", "16", 1)+strings.Replace(end, "35", "36", 1))
	wrong(t, "the place 16", head+"1 0 obj\nnull\nendobj\n"+strings.Replace(rows, "15", "16", 1)+end)
	right(t, head+"2 0 obj\n7\nendobj\n1 0 obj\nnull\nendobj\n"+"xref\n0 3\n0000000000 65535 f \n0000000032 00000 n \n0000000015 00000 n \n"+"trailer\n<</Size 3 /Root 1 0 R>>\nstartxref\n52\n%%EOF\n", file(1, plain(zero), plain(integer(7))))
	wrong(t, "a stream with Length 3 and two bytes", one("1 0 obj\n<</Length 3>>\nstream\nab\nendstream\nendobj\n"))
	right(t, one("1 0 obj\n<</Length 2>>\nstream\nab\nendstream\nendobj\n"), alone(stream(dict(), "ab")))
}

// P7.1: ordinary files.

func TestOrdinaryFiles(t *testing.T) {
	right(t, drawn(2, "1 0 obj [2 0 R 3 0 R] endobj\n", "2 0 obj <</Length 2/A 1>> stream\nab\nendstream  endobj\n", "3 0 obj\n/a#20b\nendobj\n").text(),
		file(2, plain(array(ref(2), ref(3))), stream(dict("A", integer(1)), "ab"), plain(name("a b"))))
	right(t, one("1 0 obj <</Length 2>> endobj\n"), alone(plain(dict("Length", integer(2)))))
	right(t, one("1 0 obj <</Length /a>> endobj\n"), alone(plain(dict("Length", name("a")))))
	right(t, one("1 0 obj 5 0 R endobj\n"), alone(plain(ref(5))))
	right(t, one("1 0 obj 4096 0 R endobj\n"), alone(plain(ref(4096))))
	right(t, one("1 0 obj (endobj\n) endobj\n"), alone(plain(text("endobj\n"))))
	right(t, one("1 0 obj (a\nxref\n0 2\ntrailer\nstartxref\n5\n%%EOF\n) endobj\n"), alone(plain(text("a\nxref\n0 2\ntrailer\nstartxref\n5\n%%EOF\n"))))
	right(t, one("1 0 obj <</A/B/C(d)/E<<>>>>\nendobj\n"), alone(plain(dict("A", name("B"), "C", text("d"), "E", dict()))))
}

func TestStreamsAndTheirDictionaries(t *testing.T) {
	for text, want := range map[string]api.Obj{
		"<</Length 4>>": dict(), "<</Length 4/A 1>>": dict("A", integer(1)), "<</A 1/Length 4>>": dict("A", integer(1)), "<</A 1/Length 4/B 2>>": dict("A", integer(1), "B", integer(2)),
		"<</L#65ngth 4 /A <</Length 7>>>>": dict("A", dict("Length", integer(7))), "<< /length 9 /Length1 8 /Length 4 >>": dict("length", integer(9), "Length1", integer(8)), "<</A/Length/Length 4>>": dict("A", name("Length")),
	} {
		for _, data := range []string{"abcd", "\n\n\n\n", "\x00\xff\r\n", "endo", "    "} {
			right(t, one("1 0 obj\n"+text+"\nstream\n"+data+"\nendstream\nendobj\n"), alone(stream(want, data)))
		}
	}
	for _, data := range []string{"", "\n", "endstream", "\nendstream\nendobj\n", "a\nendstream endobj\n2 0 obj null endobj\n", "stream\n", "xref\n0 2\n", strings.Repeat("\x80", 100000)} {
		right(t, one(fmt.Sprintf("1 0 obj\n<</Length %d>>\nstream\n%s\nendstream\nendobj\n", len(data), data)), alone(stream(dict(), data)))
	}
}

// P7.2.

// written are files that may be written, and can be.
func written() []api.File {
	many := func(n int) []api.Obj { return make([]api.Obj, n) }
	nested := array()
	for range 31 {
		nested = array(nested)
	}
	l := []api.File{
		file(1, make([]api.Entry, 1)...), file(2, make([]api.Entry, 2)...), file(1, make([]api.Entry, 4096)...), file(4096, make([]api.Entry, 4096)...),
		file(3, plain(dict("Type", name("Catalog"), "Pages", ref(2))), stream(dict("N", integer(1)), "q\nQ\n"), plain(array(ref(1), ref(2)))),
		file(1, stream(dict(), ""), stream(dict(), "a"), plain(dict()), stream(dict("A", zero), ""), plain(zero)),
		alone(stream(dict("A", dict("Length", integer(9)), "Length1", integer(3)), "x")), alone(plain(dict("Length", integer(3)))), alone(stream(dict("A", array(many(65533)...)), "a")),
		alone(stream(dict(), "\nendstream\nendobj\nxref\n\x00\xff%%EOF\n\r\nstartxref\n5\n%%EOF\n")), alone(stream(dict(), strings.Repeat("\n", 100000))),
		alone(plain(text(strings.Repeat("a", 65536)))), alone(plain(array(many(65535)...))), alone(plain(nested)), alone(stream(dict("A", nested.Items[0]), "b")),
	}
	for _, o := range bodies() {
		l = append(l, alone(plain(o)))
	}
	for seed := range 150 {
		l = append(l, some(seed))
	}
	return l
}

func bodies() []api.Obj {
	return []api.Obj{
		zero, {Kind: api.KBool}, {Kind: api.KBool, Flag: true}, integer(0), integer(-7), integer(api.MaxSp), {Kind: api.KReal, Num: -98304}, {Kind: api.KReal, Num: 1},
		name("A b#"), name("endobj"), name(strings.Repeat("a", 127)), text(""), text("a(b"), text("endobj\n"), text("\x00\n"), text(strings.Repeat("a", 300)),
		array(), array(integer(1), ref(7), array()), ref(1), ref(4096), dict(), dict("Length", integer(3)), dict("Type", name("Page"), "Kids", array(ref(2), ref(3))),
		dict("b", dict("Length", integer(3)), "a", integer(2)), dict("a b", text("\n"), "Size", zero, "Root", zero),
	}
}

// some is a file that hangs on a number alone.
func some(seed int) api.File {
	next := numbers(seed)
	l := bodies()
	var f api.File
	for range 1 + next(130) {
		e := plain(l[next(len(l))])
		if e.Body.Kind == api.KDict && !slices.Contains(e.Body.Keys, "Length") && next(4) > 0 {
			e.Stream, e.Data = true, strings.Repeat("d\n", next(4)*next(60))
		}
		f.Entries = append(f.Entries, e)
	}
	f.Root = 1 + next(len(f.Entries))
	return f
}

// numbers are each below what is asked, and hang on the seed alone.
func numbers(seed int) func(below int) int {
	x := uint64(seed)*2654435761 + 1
	return func(below int) int {
		x = x*6364136223846793005 + 1442695040888963407
		return int(x>>33) % below
	}
}

func TestWhatIsWrittenIsRead(t *testing.T) {
	for i, f := range written() {
		s, err := pdfout.Write(f)
		got, fault := Read(s)
		if err != api.OK || fault != api.OK || !same(got, f) {
			t.Errorf("file %d, %s: %v; is read as %s, %v", i, tell(f), err, tell(got), fault)
		}
		places, err := pdfout.Offsets(f)
		if d, fault := Start(s); err != api.OK || fault != api.OK || d != places[len(places)-1] {
			t.Errorf("file %d, %s: its table begins at %d, %v", i, tell(f), d, fault)
		}
	}
}

// shuffled is a file's text, written in another way: its objects in another
// order, with other blanks, and Length anywhere among the keys.
func shuffled(f api.File, seed int) string {
	next := numbers(seed)
	gap := func() string {
		s := ""
		for range 1 + next(3) {
			s += string(blankBytes[next(5)])
		}
		return s
	}
	d := drawn(f.Root)
	for i, e := range f.Entries {
		body, tail := e.Body, ""
		if e.Stream {
			at := next(len(body.Keys) + 1)
			body.Keys = slices.Insert(slices.Clone(body.Keys), at, "Length")
			body.Items = slices.Insert(slices.Clone(body.Items), at, integer(len(e.Data)))
			tail = "stream\n" + e.Data + "\nendstream" + gap()
		}
		s, _ := obj.Print(body)
		d.objects = append(d.objects, strconv.Itoa(i+1)+" 0 obj"+gap()+s+gap()+tail+"endobj\n")
		d.order = slices.Insert(d.order, next(i+1), i+1)
	}
	d.size = strconv.Itoa(len(d.objects) + 1)
	d.trailer = []string{"trailer\n<</Size %[1]s /Root %[2]d 0 R>>\n", "trailer\n<</Root %[2]d 0 R/Size %[1]s>>\n"}[next(2)]
	d.trailer = fmt.Sprintf(d.trailer, d.size, f.Root)
	return d.text()
}

func TestFilesThatAreWrittenOtherwise(t *testing.T) {
	for seed := range 150 {
		f := some(seed)
		s := shuffled(f, seed)
		right(t, s, f)
		got, _ := Read(s)
		again, err := pdfout.Write(got)
		if back, fault := Read(again); err != api.OK || fault != api.OK || !same(back, f) {
			t.Errorf("file %d, read, written (%v), and read: %v", seed, err, fault)
		}
	}
}

// A stream's dictionary may have as many objects in it as an object can, and is
// written then.
func TestTheGreatestDictionaryOfAStream(t *testing.T) {
	for _, n := range []int{65532, 65533} {
		s := one("1 0 obj <</A [" + strings.Repeat("0 ", n) + "]/Length 1>> stream\na\nendstream endobj\n")
		f, err := Read(s)
		again, fault := pdfout.Write(f)
		if err != api.OK || fault != api.OK {
			t.Errorf("%d: %v, %v", n, err, fault)
		}
		right(t, again, f)
	}
	wrong(t, "an object too many", one("1 0 obj <</A ["+strings.Repeat("0 ", 65534)+"]/Length 1>> stream\na\nendstream endobj\n"))
}
