package pdfout

import (
	"fmt"
	"slices"
	"strconv"
	"strings"
	"testing"
	"unsafe"

	"colophon/api"
	"colophon/obj"
)

// model is what a file is to be: the pair Length is set into the text of a Body
// that is printed without it.
func model(f api.File) (string, []int) {
	var b, table strings.Builder
	b.WriteString("\x25PDF-1.7\x0a\x25\xe2\xe3\xcf\xd3\x0a")
	var places []int
	for i, e := range f.Entries {
		body, _ := obj.Print(e.Body)
		tail := "\nendobj\n"
		if e.Stream {
			body = strings.TrimSuffix(body, ">>")
			if len(e.Body.Keys) > 0 {
				body += " "
			}
			body = fmt.Sprintf("%s/Length %d>>", body, len(e.Data))
			tail = "\nstream\n" + e.Data + "\nendstream" + tail
		}
		places = append(places, b.Len())
		fmt.Fprintf(&table, "%010d %05d n \n", b.Len(), 0)
		fmt.Fprint(&b, i+1, " 0 obj\n", body, tail)
	}
	n := len(f.Entries) + 1
	places = append(places, b.Len())
	fmt.Fprintf(&b, "xref\n0 %d\n%010d 65535 f \n%s", n, 0, table.String())
	fmt.Fprintf(&b, "trailer\n<</Size %d /Root %d 0 R>>\nstartxref\n%d\n%%%%EOF\n", n, f.Root, places[n-1])
	return b.String(), places
}

// differ tells the first place at which two texts are not the same, and what
// stands about it.
func differ(got, want string) string {
	at := 0
	for at < len(got) && at < len(want) && got[at] == want[at] {
		at++
	}
	about := func(s string) string { return s[min(max(at-20, 0), len(s)):min(at+40, len(s))] }
	return fmt.Sprintf("at %d of %d (asked: %d): %q; asked: %q", at, len(got), len(want), about(got), about(want))
}

// holds fails unless Write and Offsets answer what is asked for.
func holds(t *testing.T, what string, f api.File, want string, places []int) {
	t.Helper()
	if got, err := Write(f); got != want || err != api.OK {
		t.Errorf("%s: Write: %v, %s", what, err, differ(got, want))
	}
	if got, err := Offsets(f); !slices.Equal(got, places) || err != api.OK {
		t.Errorf("%s: Offsets: %v, %v; asked: %v", what, got[:min(len(got), 9)], err, places[:min(len(places), 9)])
	}
}

// P6.2, P6.3: the bytes, written out.

func TestTheChaptersExamples(t *testing.T) {
	want := "%PDF-1.7\n%\xe2\xe3\xcf\xd3\n" + "1 0 obj\nnull\nendobj\n" + "xref\n0 2\n0000000000 65535 f \n0000000015 00000 n \n" + "trailer\n<</Size 2 /Root 1 0 R>>\nstartxref\n35\n%%EOF\n"
	holds(t, "one null", api.File{Entries: []api.Entry{{}}, Root: 1}, want, []int{15, 35})

	s, err := Write(alone(stream(dict(), "ab")))
	if want = "1 0 obj\n<</Length 2>>\nstream\nab\nendstream\nendobj\n"; err != api.OK || len(s) < 15 || !strings.HasPrefix(s[15:], want+"xref\n") {
		t.Errorf("a stream: %q, %v", s, err)
	}
}

func TestSmallFilesByteForByte(t *testing.T) {
	const header = "%PDF-1.7\n%\xe2\xe3\xcf\xd3\n"
	holds(t, "a stream with no data", alone(stream(dict("A", zero), "")),
		header+"1 0 obj\n<</A null /Length 0>>\nstream\n\nendstream\nendobj\n"+
			"xref\n0 2\n0000000000 65535 f \n0000000015 00000 n \n"+
			"trailer\n<</Size 2 /Root 1 0 R>>\nstartxref\n70\n%%EOF\n", []int{15, 70})
	holds(t, "a stream of many bytes", alone(stream(dict("B", integer(1), "A", dict("Length", integer(2))), "stream\n\x00\xff\r\n")),
		header+"1 0 obj\n<</B 1 /A <</Length 2>> /Length 11>>\nstream\nstream\n\x00\xff\r\n\nendstream\nendobj\n"+
			"xref\n0 2\n0000000000 65535 f \n0000000015 00000 n \n"+
			"trailer\n<</Size 2 /Root 1 0 R>>\nstartxref\n96\n%%EOF\n", []int{15, 96})
	holds(t, "a dictionary that is no stream", alone(plain(dict("Length", integer(5)))),
		header+"1 0 obj\n<</Length 5>>\nendobj\n"+
			"xref\n0 2\n0000000000 65535 f \n0000000015 00000 n \n"+
			"trailer\n<</Size 2 /Root 1 0 R>>\nstartxref\n44\n%%EOF\n", []int{15, 44})
	holds(t, "three", file(3, plain(array(ref(2), ref(3))), stream(dict(), "ab"), plain(name("a b"))),
		header+"1 0 obj\n[2 0 R 3 0 R]\nendobj\n2 0 obj\n<</Length 2>>\nstream\nab\nendstream\nendobj\n3 0 obj\n/a#20b\nendobj\n"+
			"xref\n0 4\n0000000000 65535 f \n0000000015 00000 n \n0000000044 00000 n \n0000000093 00000 n \n"+
			"trailer\n<</Size 4 /Root 3 0 R>>\nstartxref\n115\n%%EOF\n", []int{15, 44, 93, 115})
}

func TestWriteOfWhatMayBe(t *testing.T) {
	for i, f := range accepted() {
		want, places := model(f)
		holds(t, fmt.Sprint("file ", i), f, want, places)
	}
}

// some is a file that hangs on a number alone: streams and others by turns,
// no two files alike.
func some(seed int) api.File {
	x := uint64(seed)*2654435761 + 1
	next := func(n int) int {
		x = x*6364136223846793005 + 1442695040888963407
		return int(x>>33) % n
	}
	bodies := smallBodies()
	var f api.File
	for range 1 + next(130) {
		o, data := bodies[next(len(bodies))], strings.Repeat("d\n", next(4)*next(60))
		e := api.Entry{Body: o}
		if o.Kind == api.KDict && next(4) > 0 {
			e.Stream, e.Data = true, data
		}
		f.Entries = append(f.Entries, e)
	}
	f.Root = 1 + next(len(f.Entries))
	return f
}

func TestWriteOfMany(t *testing.T) {
	for seed := range 400 {
		f := some(seed)
		want, places := model(f)
		holds(t, fmt.Sprint("file ", seed), f, want, places)
	}
}

// apart takes a file to pieces by its last lines, its table and its places
// alone.
func apart(t *testing.T, s string) (f api.File, places []int) {
	t.Helper()
	tail := strings.TrimSuffix(s[strings.LastIndex(s, "startxref\n")+10:], "\n%%EOF\n")
	xref, err := strconv.Atoi(tail)
	if err != nil || xref >= len(s) || !strings.HasPrefix(s[xref:], "xref\n0 ") {
		t.Fatalf("no table at %q", tail)
	}
	lines := strings.SplitAfter(s[xref:], "\n")
	size, err := strconv.Atoi(strings.TrimSuffix(lines[1][2:], "\n"))
	if err != nil || lines[2] != "0000000000 65535 f \n" || lines[2+size] != "trailer\n" || len(lines) != size+8 {
		t.Fatalf("the table is not as it should be: %q", lines[:3])
	}
	for k, line := range lines[3 : 2+size] {
		at, err := strconv.Atoi(line[:10])
		if err != nil || len(line) != 20 || line[10:] != " 00000 n \n" || !strings.HasPrefix(s[at:], fmt.Sprint(k+1, " 0 obj\n")) {
			t.Fatalf("the table's line %d: %q", k+1, line)
		}
		places = append(places, at)
		o, end, fault := obj.Parse(s, at+len(fmt.Sprint(k+1, " 0 obj\n")))
		if fault != api.OK {
			t.Fatalf("object %d: %v", k+1, fault)
		}
		e := api.Entry{Body: o}
		if strings.HasPrefix(s[end:], "\nstream\n") {
			last := len(o.Keys) - 1
			if last < 0 || o.Keys[last] != "Length" || o.Items[last].Kind != api.KInt {
				t.Fatalf("object %d: no pair Length behind all others", k+1)
			}
			e.Stream, e.Data = true, s[end+8:end+8+o.Items[last].Num]
			e.Body.Keys, e.Body.Items = o.Keys[:last], o.Items[:last]
			end += 8 + len(e.Data) + 10
			if s[end-10:end] != "\nendstream" {
				t.Fatalf("object %d: its stream ends with %q", k+1, s[end-10:end])
			}
		}
		if !strings.HasPrefix(s[end:], "\nendobj\n") {
			t.Fatalf("object %d ends with %q", k+1, s[end:end+8])
		}
		f.Entries = append(f.Entries, e)
	}
	trailer, end, fault := obj.Parse(lines[3+size], 0)
	if fault != api.OK || lines[3+size][end:] != "\n" || len(trailer.Keys) != 2 || trailer.Keys[0] != "Size" || trailer.Items[0].Num != size || trailer.Keys[1] != "Root" || trailer.Items[1].Kind != api.KRef {
		t.Fatalf("the trailer: %q", lines[3+size])
	}
	f.Root = trailer.Items[1].Num
	return f, append(places, xref)
}

func TestWhatIsWrittenIsTakenApart(t *testing.T) {
	l := accepted()
	for seed := range 100 {
		l = append(l, some(seed))
	}
	for i, f := range l {
		s, err := Write(f)
		if err != api.OK {
			t.Errorf("file %d: %v", i, err)
			continue
		}
		got, places := apart(t, s)
		same := func(a, b api.Entry) bool {
			return a.Stream == b.Stream && a.Data == b.Data && obj.Same(a.Body, b.Body)
		}
		if got.Root != f.Root || !slices.EqualFunc(got.Entries, f.Entries, same) {
			t.Errorf("file %d, %+v, is another one when it is read: %+v", i, tell(f), tell(got))
		}
		if l, err := Offsets(f); err != api.OK || !slices.Equal(l, places) {
			t.Errorf("file %d: Offsets are %v, %v; asked: %v", i, l[:min(len(l), 9)], err, places[:min(len(l), 9)])
		}
	}
}

func TestPlacesOfManyDigits(t *testing.T) {
	var f api.File
	for _, size := range []int{0, 100, 1000, 10000, 100000, 1000000, 10000000, 0} {
		f.Entries = append(f.Entries, stream(dict(), strings.Repeat("x", size)))
	}
	f.Root = 8
	want, places := model(f)
	holds(t, "places", f, want, places)
	if len(strconv.Itoa(places[8])) != 8 || len(strconv.Itoa(places[0])) != 2 {
		t.Errorf("the places are not as this test wants them: %v", places)
	}
	f = file(4096, nulls(4096)...)
	s, err := Write(f)
	if err != api.OK || !strings.Contains(s, "\n99 0 obj\nnull\nendobj\n100 0 obj\nnull\n") || !strings.Contains(s, "\n4096 0 obj\nnull\nendobj\nxref\n0 4097\n0000000000 65535 f \n") || !strings.Contains(s, "<</Size 4097 /Root 4096 0 R>>") {
		t.Errorf("4096 entries: %d bytes, %v", len(s), err)
	}
}

// The limits.

// long is an array whose text has so many bytes.
func long(bytes int) api.Obj {
	o := array(slices.Repeat([]api.Obj{text(strings.Repeat("a", 65536))}, 15)...)
	used := 2 + 15*(65536+2) + 15 // brackets, strings, blanks between
	o.Items = append(o.Items, text(strings.Repeat("b", bytes-used-2)))
	return o
}

// longDict is a dictionary whose text has so many bytes.
func longDict(bytes int) api.Obj { return dict("K", long(bytes-len("<</K >>"))) }

func tooLong(t *testing.T, what string, f api.File) {
	t.Helper()
	s, err := Write(f)
	l, also := Offsets(f)
	if s != "" || len(l) != 0 || err != api.ErrLong || also != api.ErrLong || Check(f) != api.OK {
		t.Errorf("%s: %d bytes, %d places, %v, %v, %v", what, len(s), len(l), err, also, Check(f))
	}
}

func fits(t *testing.T, what string, f api.File) {
	t.Helper()
	want, places := model(f)
	holds(t, what, f, want, places)
}

func TestABodyAtTheLongest(t *testing.T) {
	fits(t, "MaxBytes", alone(plain(long(api.MaxBytes))))
	fits(t, "a dictionary of MaxBytes", file(2, nulls(1)[0], plain(longDict(api.MaxBytes))))
	tooLong(t, "one more", alone(plain(long(api.MaxBytes+1))))
	tooLong(t, "one more, a dictionary", alone(plain(longDict(api.MaxBytes+1))))
	tooLong(t, "one more, at the end", file(1, plain(zero), stream(dict(), "a"), plain(long(api.MaxBytes+1))))
	tooLong(t, "one more, at the beginning", file(1, plain(long(api.MaxBytes+1)), plain(zero)))
	tooLong(t, "far more", alone(plain(array(slices.Repeat([]api.Obj{text(strings.Repeat("\x00", 65536))}, 65535)...))))
}

// A stream's Body is printed with the pair Length, and that text has the limit.
func TestAStreamsBodyAtTheLongest(t *testing.T) {
	for _, data := range []string{"", "a", strings.Repeat("a", 10), strings.Repeat("a", 1234567)} {
		pair := len(fmt.Sprint(" /Length ", len(data)))
		fits(t, "MaxBytes", alone(stream(longDict(api.MaxBytes-pair), data)))
		tooLong(t, "one more", alone(stream(longDict(api.MaxBytes-pair+1), data)))
		tooLong(t, "MaxBytes without the pair", alone(stream(longDict(api.MaxBytes), data)))
		tooLong(t, "one more without the pair", alone(stream(longDict(api.MaxBytes+1), data)))
	}
}

func TestAFileAtTheLongest(t *testing.T) {
	sized := func(bytes int, l ...api.Entry) api.File {
		f := file(1, append(l, stream(dict(), strings.Repeat("a", 10000000)))...)
		s, _ := model(f)
		f.Entries[len(f.Entries)-1].Data = strings.Repeat("a", 10000000+bytes-len(s)) // a Length of as many digits
		return f
	}
	for _, l := range [][]api.Entry{nil, nulls(1), nulls(4095), {stream(dict(), strings.Repeat("b", 3000000)), plain(long(api.MaxBytes))}} {
		for _, less := range []int{1, 0} {
			f := sized(api.MaxFile-less, l...)
			if s, err := Write(f); len(s) != api.MaxFile-less || err != api.OK {
				t.Errorf("%d less than MaxFile: %d bytes, %v", less, len(s), err)
			}
			fits(t, "at MaxFile", f)
		}
		// The entries, the table or the last lines alone may be what is too much.
		for _, more := range []int{1, 2, 7, 20, 40, 70, 100, 1000, 5000} {
			tooLong(t, fmt.Sprint(more, " more than MaxFile"), sized(api.MaxFile+more, l...))
		}
	}
}

func TestAFileThatIsFarTooLong(t *testing.T) {
	data := strings.Repeat("a", api.MaxFile)
	tooLong(t, "one stream", alone(stream(dict(), data)))
	tooLong(t, "one stream of more", alone(stream(dict(), data+"a")))
	tooLong(t, "4096 streams", file(1, slices.Repeat([]api.Entry{stream(dict(), data)}, 4096)...))
	tooLong(t, "4096 streams, each of which would fit", file(4096, slices.Repeat([]api.Entry{stream(dict(), data[:api.MaxFile/2])}, 4096)...))
	tooLong(t, "4096 arrays", file(1, slices.Repeat([]api.Entry{plain(long(api.MaxBytes))}, 4096)...))
	tooLong(t, "16 arrays", file(1, slices.Repeat([]api.Entry{plain(long(api.MaxBytes))}, 16)...))
	fits(t, "15 arrays", file(1, slices.Repeat([]api.Entry{plain(long(api.MaxBytes))}, 15)...))
}

// Nothing handed in is changed, and nothing told is shared.

// laid is a copy of a list whose spare room has something in it.
func laid[T any](l []T, spare T) []T {
	return slices.Concat(l, []T{spare, spare})[:len(l)]
}

// roomy is an object, each of whose lists has spare room with something in it.
func roomy(o api.Obj) api.Obj {
	o.Keys = laid(o.Keys, "spare")
	items := laid(o.Items, name("room"))
	for i, item := range items {
		items[i] = roomy(item)
	}
	o.Items = items
	return o
}

func roomyFile(f api.File) api.File {
	f.Entries = laid(f.Entries, stream(name("spare"), "room"))
	for i := range f.Entries {
		f.Entries[i].Body = roomy(f.Entries[i].Body)
	}
	return f
}

// written is all that is in a file, the spare room of its lists as well.
func written(f api.File) string {
	var b strings.Builder
	var object func(o api.Obj)
	object = func(o api.Obj) {
		fmt.Fprintf(&b, "%d %v %d %q %d %d %q (", o.Kind, o.Flag, o.Num, o.Text, len(o.Keys), len(o.Items), o.Keys[:cap(o.Keys)])
		for _, item := range o.Items[:cap(o.Items)] {
			object(item)
		}
		b.WriteString(")")
	}
	fmt.Fprint(&b, f.Root, len(f.Entries))
	for _, e := range f.Entries[:cap(f.Entries)] {
		object(e.Body)
		fmt.Fprintf(&b, "%v %q\n", e.Stream, e.Data)
	}
	return b.String()
}

func TestNothingHandedInIsChanged(t *testing.T) {
	l := []api.File{
		{}, file(0, nulls(3)...), file(1, nulls(3)...), file(1, plain(ref(0)), stream(dict("Length", zero), "a")), alone(stream(dict("a", zero, "b", dict("c", zero)), "a")),
		alone(stream(api.Obj{Kind: api.KDict, Keys: []string{"a"}}, "")), alone(stream(array(zero), "a")), alone(plain(long(api.MaxBytes + 1))), file(4096, nulls(4096)...),
		alone(stream(longDict(api.MaxBytes), "")), file(1, slices.Repeat([]api.Entry{stream(dict("a", zero), strings.Repeat("a", api.MaxFile/8))}, 9)...),
		alone(stream(counted(65534), "x")), alone(stream(counted(65535), "x")),
	}
	for seed := range 50 {
		l = append(l, some(seed))
	}
	for i, f := range l {
		f = roomyFile(f)
		was := written(f)
		Check(f)
		Write(f)
		Offsets(f)
		if written(f) != was {
			t.Errorf("file %d, %+v, is changed", i, tell(f))
		}
	}
}

// overlaps tells whether two stretches of memory have a byte in common.
func overlaps(a unsafe.Pointer, n int, b unsafe.Pointer, m int) bool {
	return uintptr(a) < uintptr(b)+uintptr(m) && uintptr(b) < uintptr(a)+uintptr(n)
}

func TestAnswersAreNewMemory(t *testing.T) {
	data := strings.Repeat("data", 1000)
	f := file(1, stream(dict("A", name("a")), data), plain(text(data)))
	one, _ := Offsets(f)
	two, _ := Offsets(f)
	one, two = one[:cap(one)], two[:cap(two)]
	width := int(unsafe.Sizeof(0))
	if overlaps(unsafe.Pointer(&one[0]), width*len(one), unsafe.Pointer(&two[0]), width*len(two)) {
		t.Error("two answers of Offsets share memory")
	}
	s, _ := Write(f)
	u, _ := Write(f)
	memory := func(s string) unsafe.Pointer { return unsafe.Pointer(unsafe.StringData(s)) }
	if overlaps(memory(s), len(s), memory(u), len(u)) || overlaps(memory(s), len(s), memory(data), len(data)) {
		t.Error("an answer of Write shares memory with another one, or with an argument")
	}
	// One answer scribbled over leaves the next one as it is.
	want, places := model(f)
	for i := range one {
		one[i] = -1
	}
	holds(t, "again", f, want, places)
}

func TestAnswersHangOnTheArgumentsAlone(t *testing.T) {
	f := file(2, stream(dict("A", name("a")), "data"), plain(text("t")))
	want, places := model(f)
	for i := range 3 {
		holds(t, fmt.Sprint("time ", i), f, want, places)
		Write(alone(plain(ref(0))))
		Write(alone(stream(dict(), strings.Repeat("a", api.MaxFile))))
		Write(some(i))
		Offsets(some(i))
	}
}

// nil and empty lists are one.
func TestNilAndEmptyLists(t *testing.T) {
	with := file(1, plain(api.Obj{Keys: []string{}, Items: []api.Obj{}}), stream(api.Obj{Kind: api.KDict, Keys: []string{}, Items: []api.Obj{}}, "a"))
	want, places := model(file(1, plain(zero), stream(dict(), "a")))
	holds(t, "empty lists", with, want, places)
	if Check(api.File{Entries: []api.Entry{}, Root: 0}) != api.ErrArg || Check(api.File{Entries: []api.Entry{}, Root: 1}) != api.ErrArg {
		t.Error("an empty list of entries")
	}
}
