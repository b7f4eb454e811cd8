package unimap_test

import (
	"fmt"
	"slices"
	"testing"

	"colophon/api"
	"colophon/obj"
	"colophon/unimap"
)

// P14.1

// At a half widths go up; a unit below it they do not.
func TestWidthsAroundAHalf(t *testing.T) {
	wide(t, "a half and those beside it", sized(16, 0, 1, 2, 3, 4, 5), 0, 63, 125, 188, 250, 313)
	wide(t, "62.5, 63.5, 64.5 of 2000", sized(2000, 124, 125, 126, 127, 128, 129), 62, 63, 63, 64, 64, 65)
	wide(t, "just below, just above", sized(16384, 8191, 8192, 8193), 500, 500, 500)
	wide(t, "0.5 of 16000", sized(16000, 7, 8, 9, 23, 24, 25), 0, 1, 1, 1, 2, 2)
	wide(t, "one of many units", sized(2048, 1, 2, 3, 1024, 1025, 1026, 2048), 0, 1, 1, 500, 500, 501, 1000)
	wide(t, "as many as are told", sized(1000, 0, 1, 499, 500, 501, 65535), 0, 1, 499, 500, 501, 65535)
	wide(t, "the widest", sized(16, 65535), 4095938)
	wide(t, "the least", sized(16384, 0, 1, 8, 9, 65535), 0, 0, 0, 1, 4000)
	for _, upem := range []int{16, 17, 32, 100, 999, 1000, 1001, 1024, 2000, 2048, 4096, 16000, 16383, 16384} {
		for from := 0; from <= 65535; from += 4096 {
			var advances []int
			for x := from; x < from+4096; x++ {
				advances = append(advances, x)
			}
			m := sized(upem, advances...)
			wide(t, fmt.Sprint("Upem ", upem, " from ", from), m, modelWidths(m)...)
		}
	}
}

func TestHowManyWidths(t *testing.T) {
	for _, n := range []int{1, 2, 3, 255, 256, 257, 4095, 4096} {
		m := sized(1000)
		var want []int
		for i := range n {
			m.Advance, m.Bearing = append(m.Advance, 16*i%65536), append(m.Bearing, -i)
			want = append(want, 16*i%65536)
		}
		wide(t, fmt.Sprint(n, " glyphs"), m, want...)
	}
}

// Only Upem and the advances count.
func TestWhatWidthsHangOn(t *testing.T) {
	m := sized(1000, 5, 6)
	m.Ascent, m.Descent, m.Gap, m.Box, m.Long, m.Bearing = -32768, 32767, -32768, [4]int{32767, -32768, 32767, -32768}, true, []int{-32768, 32767}
	wide(t, "the ends of all others", m, 5, 6)
	wide(t, "all others nothing", api.Metrics{Upem: 1000, Advance: []int{5, 6}, Bearing: []int{0, 0}}, 5, 6)
}

func TestMetricsThatAreNotGood(t *testing.T) {
	spoilt := func(what string, spoil func(m *api.Metrics)) {
		m := sized(1000, 500, 600, 700)
		spoil(&m)
		unmeasured(t, what, m)
	}
	for _, x := range []int{least, least + 1000, -1000, -1, 0, 1, 15, 16385, 65536, 1<<32 + 1000, most} {
		spoilt(fmt.Sprint("Upem ", x), func(m *api.Metrics) { m.Upem = x })
	}
	for _, x := range []int{least, -65536, -32769, 32768, 65536, 1<<32 + 5, most} {
		spoilt(fmt.Sprint("Ascent ", x), func(m *api.Metrics) { m.Ascent = x })
		spoilt(fmt.Sprint("Descent ", x), func(m *api.Metrics) { m.Descent = x })
		spoilt(fmt.Sprint("Gap ", x), func(m *api.Metrics) { m.Gap = x })
		for i := range 4 {
			spoilt(fmt.Sprint("Box ", i, " ", x), func(m *api.Metrics) { m.Box[i] = x })
		}
		for i := range 3 {
			spoilt(fmt.Sprint("Bearing ", i, " ", x), func(m *api.Metrics) { m.Bearing[i] = x })
		}
	}
	for _, x := range []int{least, -65535, -1, 65536, 1<<32 + 500, most} {
		for i := range 3 {
			spoilt(fmt.Sprint("Advance ", i, " ", x), func(m *api.Metrics) { m.Advance[i] = x })
		}
	}
	for _, n := range []int{0, 1, 2, 4, 4096} {
		spoilt(fmt.Sprint(n, " bearings"), func(m *api.Metrics) { m.Bearing = make([]int, n) })
		spoilt(fmt.Sprint(n, " advances"), func(m *api.Metrics) { m.Advance = make([]int, n) })
	}
	spoilt("no glyph", func(m *api.Metrics) { m.Advance, m.Bearing = nil, nil })
	for _, n := range []int{4097, 5000, 65536} {
		spoilt(fmt.Sprint(n, " glyphs"), func(m *api.Metrics) { m.Advance, m.Bearing = make([]int, n), make([]int, n) })
	}
	spoilt("no Upem, no glyph", func(m *api.Metrics) { *m = api.Metrics{} })
}

func TestReadWidths(t *testing.T) {
	widthsAre(t, "none at all", widths())
	widthsAre(t, "an empty list that is not nil", array(number(0), api.Obj{Kind: api.KArray, Items: []api.Obj{}}))
	widthsAre(t, "an empty list of keys", api.Obj{Kind: api.KArray, Keys: []string{}, Items: widths(7).Items}, 7)
	widthsAre(t, "one", widths(7), 7)
	widthsAre(t, "several, in order", widths(7, 0, 9, 9, 1), 7, 0, 9, 9, 1)
	widthsAre(t, "great ones", widths(65535, 65536, 4095938, 4095939, 1<<31, 1<<32, 1<<40-1, 1<<40), 65535, 65536, 4095938, 4095939, 1<<31, 1<<32, 1<<40-1, 1<<40)
	for _, n := range []int{4096, 4097, 65532, 65533} {
		l := slices.Repeat([]int{3}, n)
		widthsAre(t, fmt.Sprint(n, " of them"), widths(l...), l...)
	}
	for _, n := range []int{65534, 65535, 65536, 100000} {
		noWidths(t, fmt.Sprint(n, " of them: more objects than may be"), widths(slices.Repeat([]int{3}, n)...))
	}
	for _, x := range []int{-1, -2, -500, -1 << 31, -1 << 40, -1<<40 - 1, 1<<40 + 1, 1 << 41, 1 << 62, most, least} {
		noWidths(t, fmt.Sprint(x), widths(x))
		noWidths(t, fmt.Sprint(x, " at the end"), widths(1, 2, x))
		noWidths(t, fmt.Sprint(x, " at the beginning"), widths(x, 1, 2))
	}
}

// others are good objects, one of each kind and more.
func others() []api.Obj {
	return []api.Obj{
		{},
		{Kind: api.KBool},
		{Kind: api.KBool, Flag: true},
		{Kind: api.KReal, Num: 1},
		{Kind: api.KReal, Num: 3 * api.One / 2},
		{Kind: api.KName, Text: "0"},
		{Kind: api.KString},
		{Kind: api.KString, Text: "0"},
		{Kind: api.KArray},
		widths(1, 2),
		{Kind: api.KDict},
		{Kind: api.KDict, Keys: []string{"W", "V"}, Items: widths(1, 2).Items},
		{Kind: api.KRef, Num: 1},
		{Kind: api.KRef, Num: 4096},
	}
}

func TestWidthsOfOtherKinds(t *testing.T) {
	for _, o := range others() {
		if !obj.Good(o) {
			t.Fatalf("%s is not good", tell(o))
		}
		what := fmt.Sprint("kind ", o.Kind)
		if !obj.Same(o, widths(1, 2)) {
			noWidths(t, what, o)
		}
		noWidths(t, what+" as the first item", array(o, array(number(1))))
		noWidths(t, what+" as the only item", array(o))
		noWidths(t, what+" as a third item", array(number(0), array(number(1)), o))
		if o.Kind != api.KArray {
			noWidths(t, what+" as the second item", array(number(0), o))
		}
		noWidths(t, what+" among the widths", array(number(0), array(number(1), o, number(2))))
		noWidths(t, what+" as the first width", array(number(0), array(o, number(2))))
		noWidths(t, what+" as the last width", array(number(0), array(number(2), o)))
		noWidths(t, what+" as the only width", array(number(0), array(o)))
	}
	noWidths(t, "a number", number(0))
	noWidths(t, "a number", number(1))
	noWidths(t, "the inner array alone", array(number(1), number(2)))
	noWidths(t, "two numbers, the first 0", array(number(0), number(2)))
	noWidths(t, "the wrong way round", array(array(number(1)), number(0)))
	noWidths(t, "an array in the inner one", array(number(0), array(array(number(1)))))
	noWidths(t, "a width in an array more", array(widths(1)))
	for _, x := range []int{1, -1, 2, 65536, 1 << 32, 1 << 40, -1 << 40, least, most} {
		noWidths(t, fmt.Sprint("the first item ", x), array(number(x), array(number(1))))
		noWidths(t, fmt.Sprint("the first item ", x, ", no widths"), array(number(x), array()))
	}
}

func TestHowManyItems(t *testing.T) {
	noWidths(t, "none", array())
	noWidths(t, "the first alone", array(number(0)))
	noWidths(t, "the second alone", array(array(number(1))))
	noWidths(t, "one more", array(number(0), array(number(1)), number(0)))
	noWidths(t, "twice", array(number(0), array(number(1)), number(0), array(number(1))))
	noWidths(t, "twice, going on", array(number(0), array(number(1)), number(1), array(number(1))))
	noWidths(t, "one array more", array(number(0), array(number(1)), array()))
}

// Objects that are not good, but look like widths.
func TestWidthsThatAreNotGood(t *testing.T) {
	// spots are places in an array of widths.
	spots := map[string]func(o *api.Obj) *api.Obj{
		"the whole":       func(o *api.Obj) *api.Obj { return o },
		"the first item":  func(o *api.Obj) *api.Obj { return &o.Items[0] },
		"the second item": func(o *api.Obj) *api.Obj { return &o.Items[1] },
		"a width":         func(o *api.Obj) *api.Obj { return &o.Items[1].Items[0] },
		"the last width":  func(o *api.Obj) *api.Obj { return &o.Items[1].Items[2] },
	}
	faults := map[string]func(o *api.Obj){
		"Flag":           func(o *api.Obj) { o.Flag = true },
		"Text":           func(o *api.Obj) { o.Text = "a" },
		"Keys":           func(o *api.Obj) { o.Keys = []string{"A"} },
		"two Keys":       func(o *api.Obj) { o.Keys = []string{"A", "B"} },
		"no such kind":   func(o *api.Obj) { o.Kind = 9 },
		"below any kind": func(o *api.Obj) { o.Kind = -1 },
		"a great kind":   func(o *api.Obj) { o.Kind = o.Kind + 1<<32 },
		"a long number":  func(o *api.Obj) { o.Num = 1<<40 + 1 },
		"Items or Num": func(o *api.Obj) {
			if o.Kind == api.KArray {
				o.Num = 1
			} else {
				o.Items = []api.Obj{number(1)}
			}
		},
	}
	for where, spot := range spots {
		for what, fault := range faults {
			o := widths(5, 6, 7)
			fault(spot(&o))
			if obj.Good(o) {
				t.Fatalf("%s of %s: good", what, where)
			}
			noWidths(t, what+" of "+where, o)
		}
	}
	deep := array()
	for range 40 {
		deep = array(deep)
	}
	noWidths(t, "too deep", array(number(0), deep))
	noWidths(t, "too deep", deep)
}

func TestManyWidths(t *testing.T) {
	for seed := range 2000 {
		next := numbers(seed)
		m := sized(16 + next(16369))
		for range 1 + next(20) {
			m.Advance, m.Bearing = append(m.Advance, next(65536)), append(m.Bearing, next(65536)-32768)
		}
		wide(t, fmt.Sprint("seed ", seed), m, modelWidths(m)...)
	}
}

// P14.4: what is printed of widths is read as them, too.
func TestWidthsAsText(t *testing.T) {
	o, err := unimap.Widths(sized(2048, 1024, 1, 65535))
	if err != api.OK {
		t.Fatal(err)
	}
	s, err := obj.Print(o)
	if s != "[0 [500 0 32000]]" || err != api.OK {
		t.Errorf("%s, %v", s, err)
	}
	back, _, err := obj.Parse(s, 0)
	if err != api.OK {
		t.Fatal(err)
	}
	widthsAre(t, "printed and parsed", back, 500, 0, 32000)
}
