package unimap_test

import (
	"fmt"
	"slices"
	"strings"
	"testing"
	"unsafe"

	"colophon/api"
	"colophon/obj"
	"colophon/unimap"
)

func TestTheChaptersExamples(t *testing.T) {
	wide(t, "2048", sized(2048, 1024, 1), 500, 0)
	wide(t, "500.49 down", sized(2048, 1025), 500)
	wide(t, "62.5 up", sized(16, 1), 63)
	lines := strings.Split(written(t, "1 97", pairs(1, 97)), "\n")
	if lines[8] != "1 beginbfchar" || lines[9] != "<0001> <0061>" {
		t.Errorf("%q", lines)
	}
	if s := written(t, "5 65536", pairs(5, 65536)); !strings.Contains(s, "\n<0005> <d800dc00>\n") {
		t.Errorf("%q", s)
	}
	unwritten(t, "2 97, 1 98", pairs(2, 97, 1, 98))
}

// What is handed in is not changed, and nothing told is shared.

// filled is a list with spare room that has something in it.
func filled[T any](l []T, more ...T) []T {
	return append(slices.Clone(l), more...)[:len(l)]
}

func copied(o api.Obj) api.Obj {
	o.Keys = slices.Clone(o.Keys)
	o.Items = slices.Clone(o.Items)
	for i := range o.Items {
		o.Items[i] = copied(o.Items[i])
	}
	return o
}

// room is a list with its spare room.
func room[T any](l []T) []T { return l[:cap(l)] }

func TestMetricsAreNotChanged(t *testing.T) {
	for _, advances := range [][]int{{500, 600, 65535}, {500, -1, 600}, {}} {
		m := sized(2048, filled(advances, 7, -7)...)
		m.Advance, m.Bearing = filled(advances, 7, -7), filled(m.Bearing, 8, -8)
		advance, bearing := slices.Clone(room(m.Advance)), slices.Clone(room(m.Bearing))
		unimap.Widths(m)
		unimap.Pairs(api.Face{M: m, Chars: chars(97, 97, 1)})
		if !slices.Equal(room(m.Advance), advance) || !slices.Equal(room(m.Bearing), bearing) {
			t.Errorf("%v: changed", advances)
		}
	}
}

func TestObjectsAreNotChanged(t *testing.T) {
	for _, o := range append(others(), widths(), widths(5, 6, 7), widths(5, -6, 7), array(number(1), array(number(5)))) {
		o = copied(o)
		o.Items = filled(o.Items, number(1), number(2))
		for i := range o.Items {
			o.Items[i].Items = filled(o.Items[i].Items, number(3), number(4))
		}
		outer := copied(array(room(o.Items)...))
		var inner []api.Obj
		for _, x := range o.Items {
			inner = append(inner, copied(array(room(x.Items)...)))
		}
		unimap.ReadWidths(o)
		if !obj.Same(array(room(o.Items)...), outer) {
			t.Errorf("%s: changed", tell(o))
		}
		for i, x := range o.Items {
			if !obj.Same(array(room(x.Items)...), inner[i]) {
				t.Errorf("%s: the item %d is changed", tell(o), i)
			}
		}
	}
}

func TestListsAreNotChanged(t *testing.T) {
	for _, l := range [][]api.Chars{nil, chars(97, 99, 5), chars(200, 210, 5, 97, 99, 5, 98, 205, 9), chars(least, most, 3, 5, 3, 1)} {
		l = filled(l, api.Chars{First: 1, Last: 9, Glyph: 1}, api.Chars{First: 30, Last: 40, Glyph: 50})
		was := slices.Clone(room(l))
		want := modelPairs(l, 0x10ffff)
		if got := unimap.Pairs(api.Face{Chars: l}); !slices.Equal(got, want) || !slices.Equal(room(l), was) {
			t.Errorf("%v: changed, or its spare room is read", l)
		}
	}
	for _, l := range [][]api.Pair{nil, some(1), some(99), some(100), some(101), some(4096), pairs(2, 97, 1, 98), pairs(1, -1)} {
		l = filled(l, api.Pair{Glyph: 65534, Code: 97}, api.Pair{Glyph: 65535, Code: 98})
		was := slices.Clone(room(l))
		want, _ := modelWrite(l)
		if got, _ := unimap.Write(l); got != want || !slices.Equal(room(l), was) {
			t.Errorf("%s: changed, or its spare room is read", tell(l))
		}
	}
}

// stretch is the memory of a text, or of a list with its spare room. It holds a
// pointer, not a number, so that this memory is not freed and given to another
// answer while stretches are gathered.
type stretch struct {
	what string
	at   unsafe.Pointer
	size uintptr
}

func (a stretch) from() uintptr { return uintptr(a.at) }
func (a stretch) to() uintptr   { return uintptr(a.at) + a.size }

func ofText(what, s string) stretch {
	return stretch{what, unsafe.Pointer(unsafe.StringData(s)), uintptr(len(s))}
}

func ofList[T any](what string, l []T) stretch {
	var x T
	return stretch{what, unsafe.Pointer(unsafe.SliceData(l)), uintptr(cap(l)) * unsafe.Sizeof(x)}
}

func ofObj(what string, o api.Obj) []stretch {
	all := []stretch{ofList(what+"'s Keys", o.Keys), ofList(what+"'s Items", o.Items), ofText(what+"'s Text", o.Text)}
	for i, x := range o.Items {
		all = append(all, ofObj(fmt.Sprint(what, "'s item ", i), x)...)
	}
	return all
}

func apart(t *testing.T, l ...stretch) {
	t.Helper()
	for i, a := range l {
		for _, b := range l[:i] {
			if a.size > 0 && b.size > 0 && a.from() < b.to() && b.from() < a.to() {
				t.Errorf("%s and %s share memory", a.what, b.what)
			}
		}
	}
}

func TestAnswersAreNewMemory(t *testing.T) {
	for _, n := range []int{1, 2, 100, 300} {
		m := sized(1000, upTo(1, n)...)
		one, _ := unimap.Widths(m)
		next, _ := unimap.Widths(m)
		all := append(ofObj("one", one), ofObj("the next", next)...)
		apart(t, append(all, ofList("Advance", m.Advance), ofList("Bearing", m.Bearing))...)
		list, _ := unimap.ReadWidths(one)
		again, _ := unimap.ReadWidths(one)
		apart(t, append(ofObj("what is read", one), ofList("its list", list), ofList("the next", again))...)
		spoil(one)
		for i := range room(list) {
			room(list)[i] = -99
		}
		if !obj.Same(next, widths(upTo(1, n)...)) || !slices.Equal(again, upTo(1, n)) || !slices.Equal(m.Advance, upTo(1, n)) {
			t.Errorf("%d widths: an answer is changed by another", n)
		}
		wide(t, "once more", m, upTo(1, n)...)

		l := some(n)
		text, _ := unimap.Write(l)
		other, _ := unimap.Write(l)
		apart(t, ofText("a text", text), ofText("the next", other), ofList("its list", l))
		back, _ := unimap.Read(text)
		more, _ := unimap.Read(text)
		apart(t, ofText("what is read", text), ofList("its list", back), ofList("the next", more), ofList("what was written", l))
		spoilPairs(back)
		if !slices.Equal(more, l) {
			t.Errorf("%d pairs: an answer is changed by another", n)
		}
		written(t, "once more", some(n))

		f := api.Face{Chars: chars(97, 96+n, 1)}
		first, second := unimap.Pairs(f), unimap.Pairs(f)
		apart(t, ofList("pairs", first), ofList("the next", second), ofList("Chars", f.Chars))
		spoilPairs(first)
		if !slices.Equal(second, modelPairs(f.Chars, 1000)) || !slices.Equal(f.Chars, chars(97, 96+n, 1)) {
			t.Errorf("%d glyphs: an answer is changed by another", n)
		}
	}
	// Texts without pairs are new ones, too.
	one, _ := unimap.Write(nil)
	next, _ := unimap.Write(nil)
	apart(t, ofText("a text", one), ofText("the next", next))
}

func spoilPairs(l []api.Pair) {
	for i := range room(l) {
		room(l)[i] = api.Pair{Glyph: -9, Code: -8}
	}
}

// spoil changes an object's lists, with their spare room.
func spoil(o api.Obj) {
	for i, x := range room(o.Items) {
		spoil(x)
		room(o.Items)[i] = api.Obj{Kind: -1, Num: -99}
	}
}

// With an error nothing else is told, however far a call came.
func TestNothingBesideAnError(t *testing.T) {
	m := sized(1000, 5, 6, 7)
	m.Bearing[2] = 32768
	unmeasured(t, "the last bearing", m)
	noWidths(t, "the last width", widths(5, 6, -7))
	l := some(4096)
	l[4095].Code = -1
	unwritten(t, "the last code", l)
	s := written(t, "4096", some(4096))
	unread(t, "the last byte is missing", s[:len(s)-1])
	unread(t, "one byte more", s+"\n")
}

func TestAnswersHangOnTheArgumentsAlone(t *testing.T) {
	m, l, f := sized(2048, 1024, 1, 3), some(150), api.Face{Chars: chars(200, 210, 5, 97, 99, 5, 98, 205, 9)}
	want, _ := modelWrite(l)
	for range 100 {
		wide(t, "again", m, 500, 0, 1)
		unmeasured(t, "again", api.Metrics{})
		noWidths(t, "again", api.Obj{})
		if s := written(t, "again", l); s != want {
			t.Fatal(s)
		}
		unwritten(t, "again", pairs(2, 97, 1, 98))
		unread(t, "again", want+"\n")
		if got := unimap.Pairs(f); !slices.Equal(got, modelPairs(f.Chars, 300)) {
			t.Fatal(got)
		}
	}
}
