package obj

import (
	"math"
	"slices"
	"strings"
	"testing"
	"unsafe"

	"colophon/api"
)

const (
	least = math.MinInt
	most  = math.MaxInt
)

var zero = api.Obj{}

func boolean(b bool) api.Obj           { return api.Obj{Kind: api.KBool, Flag: b} }
func integer(x int) api.Obj            { return api.Obj{Kind: api.KInt, Num: x} }
func decimal(x int) api.Obj            { return api.Obj{Kind: api.KReal, Num: x} }
func name(s string) api.Obj            { return api.Obj{Kind: api.KName, Text: s} }
func text(s string) api.Obj            { return api.Obj{Kind: api.KString, Text: s} }
func ref(x int) api.Obj                { return api.Obj{Kind: api.KRef, Num: x} }
func array(items ...api.Obj) api.Obj   { return api.Obj{Kind: api.KArray, Items: items} }
func pair(key string, v api.Obj) piece { return piece{key, v} }

type piece struct {
	key   string
	value api.Obj
}

func dict(pieces ...piece) api.Obj {
	o := api.Obj{Kind: api.KDict}
	for _, p := range pieces {
		o.Keys = append(o.Keys, p.key)
		o.Items = append(o.Items, p.value)
	}
	return o
}

// alike holds two objects against each other by writing out all that is in
// them, nil and empty lists as one.
func alike(a, b api.Obj) bool { return slices.Equal(written(nil, a), written(nil, b)) }

func written(l []any, o api.Obj) []any {
	l = append(l, o.Kind, o.Flag, o.Num, o.Text, len(o.Keys), len(o.Items))
	for _, key := range o.Keys {
		l = append(l, key)
	}
	for _, item := range o.Items {
		l = written(l, item)
	}
	return l
}

// nested is so many arrays, or dictionaries, or both by turns, in one another.
func nested(deep int, kinds ...int) api.Obj {
	var o api.Obj
	for i := range deep {
		up := api.Obj{Kind: kinds[i%len(kinds)]}
		if i > 0 {
			up.Items = []api.Obj{o}
		}
		if up.Kind == api.KDict && i > 0 {
			up.Keys = []string{"a"}
		}
		o = up
	}
	return o
}

// counted is a dictionary with so many values.
func counted(n int) api.Obj {
	o := api.Obj{Kind: api.KDict}
	for i := range n {
		o.Keys = append(o.Keys, string([]byte{'a' + byte(i>>12), 'a' + byte(i>>8&15), 'a' + byte(i>>4&15), 'a' + byte(i&15)}))
		o.Items = append(o.Items, integer(i))
	}
	return o
}

// whole tells one of each kind, and the edges that may be.
func whole() []api.Obj {
	l := []api.Obj{
		zero, boolean(true), boolean(false),
		integer(0), integer(1), integer(-1), integer(12), integer(65536), integer(api.MaxSp), integer(-api.MaxSp), integer(api.MaxSp - 1),
		decimal(1), decimal(-1), decimal(98304), decimal(-98304), decimal(65535), decimal(65537), decimal(api.MaxSp - 1), decimal(1 - api.MaxSp),
		name("A"), name("A b#"), name(strings.Repeat("a", 127)), name(strings.Repeat("\xff", 127)),
		text(""), text("a"), text("a(b"), text("\x00"), text(strings.Repeat("a", 65536)), text(strings.Repeat("\xff", 65536)), text(strings.Repeat("(", 65536)),
		ref(1), ref(7), ref(4095), ref(4096),
		array(), {Kind: api.KArray, Items: []api.Obj{}, Keys: []string{}}, array(zero), array(integer(1), decimal(-98304), boolean(true), ref(7)),
		array(integer(1), integer(0), ref(1), integer(0), integer(0), name("R")),
		dict(), {Kind: api.KDict, Items: []api.Obj{}, Keys: []string{}}, dict(pair("Type", name("Page")), pair("Kids", array())),
		dict(pair("b", integer(1)), pair("a", integer(2)), pair(strings.Repeat("\x01", 127), zero)),
		{Kind: api.KInt, Num: 5, Items: []api.Obj{}, Keys: []string{}},
		nested(32, api.KArray), nested(32, api.KDict), nested(32, api.KArray, api.KDict), nested(32, api.KDict, api.KArray),
		array(make([]api.Obj, 65535)...), counted(65535), array(counted(32767), array(make([]api.Obj, 32766)...)),
	}
	for c := 1; c < 256; c++ {
		l = append(l, name(string([]byte{byte(c)})), name("x"+string([]byte{byte(c)})+"y"), dict(pair(string([]byte{byte(c), 'k'}), ref(c))))
	}
	for c := range 256 {
		l = append(l, text(string([]byte{byte(c)})), text("x"+string([]byte{byte(c)})+"y"), array(text(string([]byte{byte(c), byte(c)}))))
	}
	return l
}

// wrong are objects that are not good, each for one reason.
func wrong() []api.Obj {
	l := []api.Obj{
		{Kind: 9}, {Kind: -1}, {Kind: 77}, {Kind: least}, {Kind: most},
		integer(api.MaxSp + 1), integer(-api.MaxSp - 1), integer(least), integer(most),
		decimal(api.MaxSp + 1), decimal(-api.MaxSp - 1), decimal(least + 1), decimal(most),
		decimal(0), decimal(65536), decimal(-65536), decimal(3 * 65536), decimal(api.MaxSp), decimal(-api.MaxSp),
		name(""), name("\x00"), name("a\x00"), name("\x00a"), name(strings.Repeat("a", 128)), name(strings.Repeat("a", 1<<20)),
		text(strings.Repeat("a", 65537)), text(strings.Repeat("\x00", 65537)),
		ref(0), ref(-1), ref(4097), ref(least), ref(most),
		dict(pair("", zero)), dict(pair("a\x00", zero)), dict(pair(strings.Repeat("k", 128), zero)),
		dict(pair("a", zero), pair("a", integer(1))), dict(pair("a", zero), pair("b", zero), pair("a", zero)),
		{Kind: api.KDict, Keys: []string{"a"}}, {Kind: api.KDict, Items: []api.Obj{{}}},
		{Kind: api.KDict, Keys: []string{"a", "b"}, Items: []api.Obj{{}}}, {Kind: api.KDict, Keys: []string{"a"}, Items: []api.Obj{{}, {}}},
		nested(33, api.KArray), nested(33, api.KDict), nested(33, api.KArray, api.KDict), nested(40, api.KArray), nested(1<<16, api.KArray, api.KDict),
		array(make([]api.Obj, 65536)...), counted(65536), array(counted(32767), array(make([]api.Obj, 32767)...)), array(make([]api.Obj, 1<<20)...),
	}
	return append(append(l, strange()...), buried(l[:20])...)
}

// strange are objects with a field that is not the kind's own and not zero.
func strange() []api.Obj {
	own := []struct {
		o      api.Obj
		fields string
	}{
		{zero, ""}, {boolean(true), "f"}, {boolean(false), "f"}, {integer(3), "n"}, {decimal(3), "n"}, {name("a"), "t"}, {text("a"), "t"},
		{array(), "i"}, {array(zero), "i"}, {dict(), "ki"}, {dict(pair("a", zero)), "ki"}, {ref(3), "n"},
	}
	var l []api.Obj
	for _, x := range own {
		for _, field := range "fntki" {
			o := x.o
			switch field {
			case 'f':
				o.Flag = true
			case 'n':
				o.Num = 5
			case 't':
				o.Text = "b"
			case 'k':
				o.Keys = []string{"b"}
			case 'i':
				o.Items = []api.Obj{{}}
			}
			if !strings.ContainsRune(x.fields, field) {
				l = append(l, o)
			}
		}
	}
	return l
}

// buried are these objects, each deep in a good one.
func buried(l []api.Obj) []api.Obj {
	var out []api.Obj
	for _, o := range l {
		out = append(out, array(o), array(integer(1), dict(pair("a", zero), pair("b", array(o, zero)))), dict(pair("a", o)))
	}
	return out
}

// laid is a copy of an object whose lists have spare room with something in it.
func laid(o api.Obj) api.Obj {
	keys := append(append([]string{}, o.Keys...), "spare", "room")
	items := make([]api.Obj, 0, len(o.Items)+2)
	for _, item := range o.Items {
		items = append(items, laid(item))
	}
	items = append(items, name("spare"), name("room"))
	o.Keys, o.Items = keys[:len(o.Keys)], items[:len(o.Items)]
	return o
}

// opened is an object with the spare room of its lists laid open.
func opened(o api.Obj) api.Obj {
	o.Keys = o.Keys[:cap(o.Keys)]
	items := o.Items[:cap(o.Items)]
	o.Items = nil
	for _, item := range items {
		o.Items = append(o.Items, opened(item))
	}
	return o
}

type stretch struct{ from, to uintptr }

// memory tells where all lists of an object lie, their spare room included.
func memory(o api.Obj) []stretch {
	var l []stretch
	if cap(o.Keys) > 0 {
		from := uintptr(unsafe.Pointer(unsafe.SliceData(o.Keys)))
		l = append(l, stretch{from, from + uintptr(cap(o.Keys))*unsafe.Sizeof("")})
	}
	if cap(o.Items) > 0 {
		from := uintptr(unsafe.Pointer(unsafe.SliceData(o.Items)))
		l = append(l, stretch{from, from + uintptr(cap(o.Items))*unsafe.Sizeof(zero)})
	}
	for _, item := range o.Items {
		l = append(l, memory(item)...)
	}
	return l
}

// apart fails if any two lists of these objects share memory.
func apart(t *testing.T, what string, objects ...api.Obj) {
	t.Helper()
	var l []stretch
	for _, o := range objects {
		l = append(l, memory(o)...)
	}
	slices.SortFunc(l, func(a, b stretch) int {
		if a.from < b.from {
			return -1
		}
		return 1
	})
	for i := 1; i < len(l); i++ {
		if l[i].from < l[i-1].to {
			t.Errorf("%s: two lists share memory", what)
			return
		}
	}
}

// short is an object as a failing test may tell it.
func short(o api.Obj) any {
	if s, err := Print(o); err == api.OK {
		return s[:min(len(s), 80)]
	}
	return [4]any{o.Kind, o.Num, len(o.Keys), len(o.Items)}
}

// P5.1

func TestGood(t *testing.T) {
	for _, o := range whole() {
		if !Good(o) {
			t.Errorf("%v is not good", short(o))
		}
	}
	for i, o := range wrong() {
		if Good(o) {
			t.Errorf("wrong object %d, %v, is good", i, short(o))
		}
	}
}

func TestGoodCountsTheObjectsOfAll(t *testing.T) {
	half := array(make([]api.Obj, 32767)...) // 32768 objects with itself
	if Good(array(half, half)) {
		t.Error("65537 objects are good")
	}
	if !Good(array(half, array(make([]api.Obj, 32766)...))) {
		t.Error("65536 objects are not good")
	}
	// Twice as many at each step, and all of them in one place of memory.
	o := array()
	for range 31 {
		o = array(o, o)
	}
	if Good(o) {
		t.Error("2^32 objects are good")
	}
}

func TestGet(t *testing.T) {
	d := dict(pair("a", integer(1)), pair("b", integer(2)), pair("A", array(ref(3))))
	for _, x := range []struct {
		o    api.Obj
		key  string
		want api.Obj
		ok   bool
	}{
		{d, "a", integer(1), true}, {d, "b", integer(2), true}, {d, "A", array(ref(3)), true},
		{d, "", zero, false}, {d, "c", zero, false}, {d, "aa", zero, false}, {d, "B", zero, false},
		{dict(), "a", zero, false}, {zero, "a", zero, false}, {array(d), "a", zero, false}, {dict(pair("x", d)), "a", zero, false},
		{dict(pair("a", zero)), "a", zero, true},
		{dict(pair("a", integer(5)), pair("a", integer(6))), "a", integer(5), true},
		{dict(pair("", integer(5))), "", integer(5), true}, // no good object, and yet
		{api.Obj{Kind: api.KDict, Keys: []string{"a"}}, "a", zero, false},
		{api.Obj{Kind: api.KDict, Keys: []string{"b", "a"}, Items: []api.Obj{integer(1)}}, "a", zero, false},
		{api.Obj{Kind: api.KDict, Keys: []string{"b", "a"}, Items: []api.Obj{integer(1)}}, "b", integer(1), true},
		{api.Obj{Kind: api.KDict, Items: []api.Obj{integer(1)}}, "", zero, false},
		{api.Obj{Kind: api.KDict, Num: 5, Keys: []string{"b"}, Items: []api.Obj{integer(1), integer(2)}}, "b", integer(1), true},
		{dict(pair("a", api.Obj{Kind: 77, Num: most, Keys: []string{"x"}})), "a", api.Obj{Kind: 77, Num: most, Keys: []string{"x"}}, true},
	} {
		if got, ok := Get(x.o, x.key); !alike(got, x.want) || ok != x.ok {
			t.Errorf("Get(%v, %q): %v, %v", short(x.o), x.key, short(got), ok)
		}
	}
	for kind := -1; kind < 12; kind++ {
		o := api.Obj{Kind: kind, Keys: []string{"a"}, Items: []api.Obj{integer(1)}}
		if _, ok := Get(o, "a"); ok != (kind == api.KDict) {
			t.Errorf("Get of kind %d: %v", kind, ok)
		}
	}
}

func TestGetAnswersNewMemory(t *testing.T) {
	value := array(dict(pair("x", array(integer(1), array(text("deep")))), pair("y", dict())), array(), integer(2))
	value.Keys = []string{"of no use", "yet kept"}
	d := laid(dict(pair("z", integer(9)), pair("a", value)))
	was := opened(d)
	one, _ := Get(d, "a")
	two, _ := Get(d, "a")
	if !alike(one, value) || !alike(two, value) {
		t.Error("the value is another one")
	}
	apart(t, "Get", d, one, two)
	if !alike(opened(d), was) {
		t.Error("what was handed in is changed")
	}
}

func TestSame(t *testing.T) {
	l := append(wrong(), whole()[:60]...)
	l = slices.DeleteFunc(l, func(o api.Obj) bool { return len(written(nil, o)) > 1000 || len(o.Text) > 1000 })
	for i, a := range l {
		for j, b := range l {
			if want := i == j || alike(a, b); Same(a, b) != want {
				t.Errorf("Same(%v, %v) is %v", short(a), short(b), !want)
			}
		}
	}
	for _, o := range whole() {
		if !Same(o, laid(o)) || Same(o, array(o)) || Same(array(o), o) {
			t.Errorf("Same of %v and a copy, or an array of it", short(o))
		}
	}
}

func TestSameLooksAtEveryField(t *testing.T) {
	base := api.Obj{Kind: 1, Flag: true, Num: 2, Text: "t", Keys: []string{"k", "l"}, Items: []api.Obj{integer(1), array(integer(2))}}
	others := []api.Obj{base, base, base, base, base, base, base, base, base, base}
	others[0].Kind = 2
	others[1].Flag = false
	others[2].Num = 3
	others[3].Text = "tt"
	others[4].Keys = []string{"k"}
	others[5].Keys = []string{"k", "m"}
	others[6].Keys = []string{"l", "k"}
	others[7].Items = base.Items[:1]
	others[8].Items = []api.Obj{integer(1), array(integer(3))}
	others[9].Items = []api.Obj{array(integer(2)), integer(1)}
	for i, other := range others {
		if Same(base, other) || Same(other, base) || Same(array(base), array(other)) || Same(dict(pair("a", other)), dict(pair("a", base))) {
			t.Errorf("no difference is seen at %d", i)
		}
	}
	if !Same(base, laid(base)) {
		t.Error("a copy is another one")
	}
	if !Same(api.Obj{}, api.Obj{Keys: []string{}, Items: []api.Obj{}}) || !Same(array(array()), array(api.Obj{Kind: api.KArray, Items: []api.Obj{}})) {
		t.Error("nil and empty lists are not one")
	}
	if a, b := nested(1<<16, api.KArray), nested(1<<16, api.KArray); !Same(a, b) || Same(a, nested(1<<16-1, api.KArray)) {
		t.Error("Same of what is deep")
	}
}

// All of them: what is handed in stays as it was.

func TestNothingHandedInIsChanged(t *testing.T) {
	for _, o := range append(whole(), wrong()...) {
		if len(written(nil, o)) > 1<<16 {
			continue
		}
		given := laid(o)
		was := opened(given)
		Good(given)
		Print(given)
		Get(given, "a")
		Same(given, o)
		Same(o, given)
		if !alike(opened(given), was) {
			t.Errorf("%v is changed", short(o))
		}
	}
}
