package pdfout

import (
	"math"
	"slices"
	"strconv"
	"strings"
	"testing"

	"colophon/api"
)

const (
	least = math.MinInt
	most  = math.MaxInt
)

var zero = api.Obj{}

func integer(x int) api.Obj          { return api.Obj{Kind: api.KInt, Num: x} }
func name(s string) api.Obj          { return api.Obj{Kind: api.KName, Text: s} }
func text(s string) api.Obj          { return api.Obj{Kind: api.KString, Text: s} }
func ref(x int) api.Obj              { return api.Obj{Kind: api.KRef, Num: x} }
func array(items ...api.Obj) api.Obj { return api.Obj{Kind: api.KArray, Items: items} }

// dict is made of keys and values by turns.
func dict(pairs ...any) api.Obj {
	o := api.Obj{Kind: api.KDict}
	for i := 0; i < len(pairs); i += 2 {
		o.Keys = append(o.Keys, pairs[i].(string))
		o.Items = append(o.Items, pairs[i+1].(api.Obj))
	}
	return o
}

// counted is a dictionary with so many values.
func counted(n int) api.Obj {
	o := api.Obj{Kind: api.KDict}
	for i := range n {
		o.Keys = append(o.Keys, "k"+strconv.Itoa(i))
		o.Items = append(o.Items, zero)
	}
	return o
}

// nested is so many dictionaries in one another.
func nested(deep int) api.Obj {
	o := dict()
	for range deep - 1 {
		o = dict("a", o)
	}
	return o
}

func plain(o api.Obj) api.Entry                { return api.Entry{Body: o} }
func stream(o api.Obj, data string) api.Entry  { return api.Entry{Body: o, Stream: true, Data: data} }
func file(root int, l ...api.Entry) api.File   { return api.File{Entries: l, Root: root} }
func nulls(n int) []api.Entry                  { return make([]api.Entry, n) }
func between(e api.Entry, n, at int) api.File  { l := nulls(n); l[at] = e; return file(1, l...) }
func alone(e api.Entry) api.File               { return file(1, e) }
func refused(f api.File, err api.Errno) tested { return tested{f, err} }

type tested struct {
	f   api.File
	err api.Errno
}

// smallBodies are one of each kind, and more.
func smallBodies() []api.Obj {
	return []api.Obj{
		zero, {Kind: api.KBool}, {Kind: api.KBool, Flag: true}, integer(0), integer(-7), integer(api.MaxSp), {Kind: api.KReal, Num: -98304},
		name("A b#"), name(strings.Repeat("a", 127)), text(""), text("a(b"), text("\x00\n"), text(strings.Repeat("a", 300)),
		array(), array(integer(1), ref(7), array()), ref(1), ref(4096), nested(32),
		dict(), {Kind: api.KDict, Keys: []string{}, Items: []api.Obj{}}, dict("Type", name("Page"), "Kids", array(ref(2), ref(3))), dict("b", dict("Length", integer(3)), "a", integer(2)),
	}
}

// goodBodies are the small ones, and those as great as may be.
func goodBodies() []api.Obj {
	return append(smallBodies(), text(strings.Repeat("a", 65536)), array(make([]api.Obj, 65535)...), counted(65535))
}

// badBodies are not good, each for one reason.
func badBodies() []api.Obj {
	return []api.Obj{
		{Kind: 9}, {Kind: -1}, {Kind: least}, {Kind: most}, {Num: 1}, {Flag: true}, {Items: []api.Obj{{}}}, {Keys: []string{"a"}},
		{Kind: api.KBool, Num: 1}, {Kind: api.KInt, Text: "a"}, integer(api.MaxSp + 1), integer(least), integer(most), {Kind: api.KReal}, {Kind: api.KReal, Num: 65536},
		name(""), name("a\x00"), name(strings.Repeat("a", 128)), text(strings.Repeat("a", 65537)), ref(0), ref(4097), ref(-1),
		array(ref(0)), array(array(array(name("")))), {Kind: api.KArray, Keys: []string{"a"}, Items: []api.Obj{{}}}, array(make([]api.Obj, 65536)...),
	}
}

// badDicts are dictionaries that are not good, with and without a pair more.
func badDicts() []api.Obj {
	return []api.Obj{
		dict("", zero), dict("a\x00", zero), dict(strings.Repeat("a", 128), zero), dict("a", zero, "a", zero), dict("a", name("")), dict("a", array(dict("b", ref(0)))),
		{Kind: api.KDict, Keys: []string{"a"}}, {Kind: api.KDict, Items: []api.Obj{{}}}, {Kind: api.KDict, Keys: []string{"a", "b"}, Items: []api.Obj{{}}},
		{Kind: api.KDict, Num: 1}, {Kind: api.KDict, Flag: true}, {Kind: api.KDict, Text: "a"},
		nested(33), nested(1 << 16), counted(65536), dict("a", array(make([]api.Obj, 65535)...)), array(make([]api.Obj, 1<<18)...),
	}
}

// accepted are files that may be written, and can be.
func accepted() []api.File {
	l := []api.File{
		file(1, nulls(1)...), file(1, nulls(2)...), file(2, nulls(2)...), file(1, nulls(4096)...), file(4096, nulls(4096)...), file(2048, nulls(4096)...),
		file(3, plain(dict("Type", name("Catalog"), "Pages", ref(2))), stream(dict("N", integer(1)), "q\nQ\n"), plain(array(ref(1), ref(2)))),
		file(1, stream(dict(), ""), stream(dict(), "a"), plain(dict()), stream(dict("A", zero), ""), plain(zero)),
		alone(stream(dict("A", dict("Length", integer(9))), "x")), alone(stream(dict("length", zero, "Length1", zero, "Lengt", zero, "LENGTH", zero), "x")),
		alone(stream(dict("A", name("Length"), "B", text("Length")), "x")), alone(plain(dict("Length", integer(3)))), alone(plain(dict("A", zero, "Length", zero))),
		alone(stream(nested(32), "x")), alone(stream(counted(65534), "x")), alone(stream(dict("a", array(make([]api.Obj, 65533)...)), "")),
		alone(stream(dict("a", array(make([]api.Obj, 30000)...), "b", array(make([]api.Obj, 35532)...)), "")),
		alone(stream(dict(), "endstream\nendobj\nxref\n\x00\xff%%EOF\n\r\n")), alone(stream(dict(), strings.Repeat("\n", 100000))),
	}
	for _, o := range goodBodies() {
		l = append(l, alone(plain(o)), between(plain(o), 12, 10))
	}
	return l
}

// wrong are files that may not be written.
func wrong() []tested {
	var l []tested
	for _, root := range []int{0, -1, 2, 3, 4096, 4097, least, most} {
		l = append(l, refused(file(root, nulls(1)...), api.ErrArg), refused(file(root), api.ErrArg))
	}
	for _, root := range []int{0, -1, 4097, 4098, least, most} {
		l = append(l, refused(file(root, nulls(4096)...), api.ErrArg))
	}
	for _, n := range []int{0, 4097, 4098, 1 << 16} {
		for _, root := range []int{0, 1, n, n + 1, 4096} {
			l = append(l, refused(file(root, nulls(n)...), api.ErrArg), refused(api.File{Entries: nulls(n), Root: root}, api.ErrArg))
		}
	}
	for _, o := range append(badBodies(), badDicts()...) {
		l = append(l, refused(alone(plain(o)), api.ErrObj), refused(alone(stream(o, "")), api.ErrObj))
		l = append(l, refused(between(plain(o), 5, 0), api.ErrObj), refused(between(plain(o), 5, 4), api.ErrObj), refused(between(stream(o, "x"), 5, 2), api.ErrObj))
	}
	for _, o := range goodBodies() {
		l = append(l, refused(alone(api.Entry{Body: o, Data: "a"}), api.ErrObj), refused(between(api.Entry{Body: o, Data: "\x00"}, 4096, 4095), api.ErrObj))
		if o.Kind != api.KDict {
			l = append(l, refused(alone(stream(o, "")), api.ErrObj), refused(alone(stream(o, "x")), api.ErrObj), refused(between(stream(o, "x"), 3, 2), api.ErrObj))
		}
	}
	for _, o := range []api.Obj{
		dict("Length", zero), dict("Length", integer(1)), dict("Length", ref(1)), dict("A", zero, "Length", integer(1)), dict("Length", integer(1), "A", zero), dict("A", zero, "Length", zero, "B", zero),
		counted(65535), dict("a", array(make([]api.Obj, 65534)...)), dict("a", array(make([]api.Obj, 30000)...), "b", array(make([]api.Obj, 35533)...)),
	} {
		l = append(l, refused(alone(stream(o, "")), api.ErrObj), refused(alone(stream(o, "x")), api.ErrObj), refused(between(stream(o, "x"), 7, 6), api.ErrObj))
	}
	return append(l, manyAtOnce()...)
}

// manyAtOnce are files with several faults, of which the first is told.
func manyAtOnce() []tested {
	bad := plain(ref(0))
	far := plain(array(slices.Repeat([]api.Obj{text(strings.Repeat("a", 65536))}, 20)...))
	heavy := stream(dict(), strings.Repeat("a", api.MaxFile))
	many := func(e api.Entry) []api.Entry { return slices.Repeat([]api.Entry{e}, 4097) }
	return []tested{
		refused(file(0, bad), api.ErrArg), refused(file(2, bad), api.ErrArg), refused(file(1, many(bad)...), api.ErrArg), refused(file(1, many(heavy)...), api.ErrArg),
		refused(file(3, far, heavy), api.ErrArg), refused(file(0, heavy), api.ErrArg), refused(file(0, many(far)...), api.ErrArg),
		refused(file(1, far, bad), api.ErrObj), refused(file(1, heavy, bad), api.ErrObj), refused(file(1, bad, heavy), api.ErrObj), refused(file(1, bad, far, heavy), api.ErrObj),
		refused(file(2, heavy, api.Entry{Data: "a"}), api.ErrObj), refused(file(1, api.Entry{Data: strings.Repeat("a", api.MaxFile+1)}), api.ErrObj),
		refused(file(1, heavy, far, stream(zero, "")), api.ErrObj), refused(file(1, stream(dict("Length", zero), strings.Repeat("a", api.MaxFile))), api.ErrObj),
	}
}

// tell is a file as a failing test may tell it.
func tell(f api.File) any {
	type short struct {
		kind, num, keys, items, data int
		stream                       bool
	}
	var l []short
	for _, e := range f.Entries[:min(len(f.Entries), 8)] {
		l = append(l, short{e.Body.Kind, e.Body.Num, len(e.Body.Keys), len(e.Body.Items), len(e.Data), e.Stream})
	}
	return []any{len(f.Entries), f.Root, l}
}

// P6.1

func TestCheck(t *testing.T) {
	for i, f := range accepted() {
		if err := Check(f); err != api.OK {
			t.Errorf("file %d, %+v: %v", i, tell(f), err)
		}
	}
	for i, x := range wrong() {
		if err := Check(x.f); err != x.err {
			t.Errorf("wrong file %d, %+v: %v; asked: %v", i, tell(x.f), err, x.err)
		}
	}
}

func TestCheckDoesNotAskHowLongItIs(t *testing.T) {
	long := array(slices.Repeat([]api.Obj{text(strings.Repeat("a", 65536))}, 65535)...)
	for _, f := range []api.File{
		alone(plain(long)), alone(stream(dict("a", array(long.Items[:65533]...)), "x")), alone(stream(dict(), strings.Repeat("a", api.MaxFile+1))),
		file(1, slices.Repeat([]api.Entry{stream(dict(), strings.Repeat("a", api.MaxFile))}, 4096)...),
	} {
		if err := Check(f); err != api.OK {
			t.Errorf("%+v: %v", tell(f), err)
		}
	}
}

// With an error every other result is zero.

func TestWrongFilesAreNotWritten(t *testing.T) {
	for i, x := range wrong() {
		if s, err := Write(x.f); s != "" || err != x.err {
			t.Errorf("Write of wrong file %d, %+v: %d bytes, %v; asked: %v", i, tell(x.f), len(s), err, x.err)
		}
		if l, err := Offsets(x.f); len(l) != 0 || err != x.err {
			t.Errorf("Offsets of wrong file %d, %+v: %d places, %v; asked: %v", i, tell(x.f), len(l), err, x.err)
		}
	}
}

func TestTheChaptersWrongExamples(t *testing.T) {
	for _, x := range []tested{
		{api.File{}, api.ErrArg}, {api.File{Root: 1}, api.ErrArg}, {api.File{Entries: []api.Entry{{}}, Root: 2}, api.ErrArg},
		{api.File{Entries: []api.Entry{{Body: api.Obj{Kind: api.KInt, Text: "a"}}}, Root: 1}, api.ErrObj},
	} {
		s, err := Write(x.f)
		l, also := Offsets(x.f)
		if s != "" || len(l) != 0 || err != x.err || also != x.err || Check(x.f) != x.err {
			t.Errorf("%+v: %q, %v, %v, %v, %v", tell(x.f), s, l, err, also, Check(x.f))
		}
	}
}
