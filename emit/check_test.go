package emit_test

import (
	"fmt"
	"slices"
	"testing"

	"colophon/api"
	"colophon/emit"
)

// P15.1: Check.

func TestNoMarks(t *testing.T) {
	written(t, "nil", "")
	written(t, "empty", "", []api.Mark{}...)
}

func TestEachKindAlone(t *testing.T) {
	good(t, "a text", text(1))
	good(t, "a rule", rule(0, 0, 1, 1))
	good(t, "a clip", clip(0, 0, 1, 1))
	good(t, "an end", end())
	stands(t, "a text alone", list(text(1)))
	stands(t, "a rule alone", list(rule(0, 0, 1, 1)))
	refused(t, "a clip alone", list(clip(0, 0, 1, 1)))
	refused(t, "an end alone", list(end()))
}

func TestKindsThatAreNone(t *testing.T) {
	for _, kind := range []int{0, -1, -2, -3, -4, 5, 6, 7, 8, 100, 257, 258, 1<<32 + 1, 1<<32 + 4, least, least + 1, most} {
		bad(t, fmt.Sprint("kind ", kind), api.Mark{Kind: kind})
		for _, m := range list(text(1), rule(0, 0, 1, 1), clip(0, 0, 1, 1)) {
			m.Kind = kind
			bad(t, fmt.Sprint("kind ", kind), m)
		}
	}
	refused(t, "a mark of nothing", make([]api.Mark, 1))
}

func TestAKindWithTheFieldsOfAnother(t *testing.T) {
	for _, m := range list(text(1), rule(0, 0, 1, 1), clip(0, 0, 1, 1)) {
		for kind := 1; kind <= 4; kind++ {
			other := m
			other.Kind = kind
			if m.Kind == kind || m.Kind != api.MarkText && (kind == api.MarkRule || kind == api.MarkClip) {
				good(t, "its own kind", other)
			} else {
				bad(t, fmt.Sprint("kind ", kind), other)
			}
		}
	}
}

func TestGlyphs(t *testing.T) {
	bad(t, "no glyph", text())
	bad(t, "no glyph, but a list", text([]int{}...))
	bad(t, "spare room alone", text([]int{1, 2, 3}[:0]...))
	for _, g := range []int{0, 1, 2, 255, 256, 4095, 4096, 32767, 32768, 65534, 65535} {
		good(t, fmt.Sprint("glyph ", g), text(g))
		good(t, fmt.Sprint("first glyph ", g), text(g, 5, 6))
		good(t, fmt.Sprint("last glyph ", g), text(5, 6, g))
	}
	for _, g := range []int{-1, -2, -65535, -65536, 65536, 65537, 131071, 1 << 20, 1 << 32, 1<<32 + 1, top, least, most} {
		bad(t, fmt.Sprint("glyph ", g), text(g))
		bad(t, fmt.Sprint("first glyph ", g), text(g, 5, 6))
		bad(t, fmt.Sprint("middle glyph ", g), text(5, g, 6))
		bad(t, fmt.Sprint("last glyph ", g), text(5, 6, g))
		bad(t, fmt.Sprint("a far glyph ", g), text(append(make([]int, 1000), g)...))
	}
	// What lies in the spare room is no glyph.
	good(t, "spare room", text([]int{1, -1, 65536}[:1]...))
}

func TestFonts(t *testing.T) {
	for _, font := range []int{0, 1, 9, 10, 11, 50, 98, 99} {
		good(t, fmt.Sprint("font ", font), changed(text(1), func(m *api.Mark) { m.Font = font }))
	}
	for _, font := range []int{-1, -2, -99, 100, 101, 256, 1 << 32, least, most} {
		bad(t, fmt.Sprint("font ", font), changed(text(1), func(m *api.Mark) { m.Font = font }))
	}
}

func TestSizes(t *testing.T) {
	for _, size := range []int{1, 2, one - 1, one, 12 * one, top - 1, top} {
		good(t, fmt.Sprint("size ", size), changed(text(1), func(m *api.Mark) { m.Size = size }))
	}
	for _, size := range []int{0, -1, -2, -one, -top, -top - 1, top + 1, top + 2, 2 * top, 1 << 62, least, most} {
		bad(t, fmt.Sprint("size ", size), changed(text(1), func(m *api.Mark) { m.Size = size }))
	}
}

func TestPlaces(t *testing.T) {
	for _, x := range []int{0, 1, -1, one, -one, top - 1, 1 - top, top, -top} {
		good(t, fmt.Sprint("X ", x), changed(text(1), func(m *api.Mark) { m.X = x }))
		good(t, fmt.Sprint("Y ", x), changed(text(1), func(m *api.Mark) { m.Y = x }))
		good(t, fmt.Sprint("X and Y ", x), changed(text(1), func(m *api.Mark) { m.X, m.Y = x, -x }))
	}
	for _, x := range []int{top + 1, -top - 1, 2 * top, -2 * top, 1 << 62, -1 << 62, least, most} {
		bad(t, fmt.Sprint("X ", x), changed(text(1), func(m *api.Mark) { m.X = x }))
		bad(t, fmt.Sprint("Y ", x), changed(text(1), func(m *api.Mark) { m.Y = x }))
		bad(t, fmt.Sprint("X and Y ", x), changed(text(1), func(m *api.Mark) { m.X, m.Y = x, x }))
	}
}

// boxes are a rule and a clip of one rectangle.
func boxes(r api.Rect) []api.Mark {
	return list(api.Mark{Kind: api.MarkRule, Box: r}, api.Mark{Kind: api.MarkClip, Box: r})
}

func TestBoxes(t *testing.T) {
	for _, r := range []api.Rect{
		{}, box(1, 2, 3, 4), box(-4, -3, -2, -1), box(-5, -6, 7, 8), box(7, 7, 7, 7), box(0, 5, 9, 5), box(5, 0, 5, 9),
		box(0, 0, top, top), box(-top, -top, 0, 0), box(-top, -top, -top, -top), box(top, top, top, top), box(-1, 0, top-1, 0), box(0, 1-top, 0, 1), box(-top/2, -top/2, top/2, top/2),
	} {
		for _, m := range boxes(r) {
			good(t, "a box that may be", m)
		}
	}
	for _, r := range []api.Rect{
		box(1, 0, 0, 0), box(0, 1, 0, 0), box(5, 5, 4, 6), box(5, 5, 6, 4), box(2, 2, 1, 1), box(top, 0, 0, 0), box(0, top, 0, 0), box(0, 0, -top, 0), box(0, 0, 0, -top), // out of order
		box(-top-1, 0, 0, 0), box(0, -top-1, 0, 0), box(0, 0, top+1, 0), box(0, 0, 0, top+1), // one not in
		box(-top-1, 0, -top, 0), box(0, -top-1, 0, -top), box(top, 0, top+1, 0), box(0, top, 0, top+1), // of a small difference
		box(top+1, 0, top+1, 0), box(0, top+1, 0, top+1), box(-top-1, 0, -top-1, 0), box(0, -top-1, 0, -top-1), // of none
	} {
		for _, m := range boxes(r) {
			bad(t, "a box that may not be", m)
		}
	}
}

func TestSidesThatAreTooLong(t *testing.T) {
	for _, r := range []api.Rect{
		box(-1, 0, top, 0), box(0, -1, 0, top), box(-top, 0, 1, 0), box(0, -top, 0, 1), box(-top, 0, top, 0), box(0, -top, 0, top), box(-top, -top, top, top),
		box(-top/2-1, 0, top/2, 0), box(-top/2, 0, top/2+1, 0), box(0, -top/2-1, 0, top/2), box(0, -top/2, 0, top/2+1),
	} {
		for _, m := range boxes(r) {
			bad(t, "too long", m)
		}
	}
}

// Of such numbers a difference would turn round, to a small one.
func TestSidesThatWouldTurnRound(t *testing.T) {
	for _, r := range []api.Rect{
		box(most, 0, least, 0), box(0, most, 0, least), box(least, 0, most, 0), box(0, least, 0, most), box(least, least, most, most), box(most, most, least, least),
		box(least, 0, 0, 0), box(0, least, 0, 0), box(0, 0, most, 0), box(0, 0, 0, most), box(0, 0, least, 0), box(0, 0, 0, least), box(most, 0, 0, 0), box(0, most, 0, 0),
		box(least, 0, least, 0), box(0, most, 0, most), box(most-1, 0, most, 0), box(0, least, 0, least+1), box(-1<<62, 0, 1<<62, 0), box(0, -1<<62-1, 0, 1<<62), box(1<<62, 0, -1<<62, 0), box(-2, 0, most, 0), box(0, 2, 0, least),
	} {
		for _, m := range boxes(r) {
			bad(t, "turned round", m)
		}
	}
}

func TestBoxesAtAllEdges(t *testing.T) {
	edges := []int{least, -top - 1, -top, -1, 0, 1, top, top + 1, most}
	written := 0
	for _, x0 := range edges {
		for _, y0 := range edges {
			for _, x1 := range edges {
				for _, y1 := range edges {
					l := append(boxes(box(x0, y0, x1, y1)), end())
					if as(t, "at the edges", l) == api.OK {
						written++
					}
				}
			}
		}
	}
	// Of -top, -1, 0, 1 and top 15 pairs are in order; a side from -top or -1
	// to top, or from -top to 1, is too long: 12 are left.
	if written != 12*12 {
		t.Errorf("%d boxes are written", written)
	}
}

// others are changes of one field each, to something that is not zero.
func others() map[string]func(m *api.Mark, x int) {
	return map[string]func(m *api.Mark, x int){
		"Font": func(m *api.Mark, x int) { m.Font = x },
		"Size": func(m *api.Mark, x int) { m.Size = x },
		"X":    func(m *api.Mark, x int) { m.X = x },
		"Y":    func(m *api.Mark, x int) { m.Y = x },
		"X0":   func(m *api.Mark, x int) { m.Box.X0 = x },
		"Y0":   func(m *api.Mark, x int) { m.Box.Y0 = x },
		"X1":   func(m *api.Mark, x int) { m.Box.X1 = x },
		"Y1":   func(m *api.Mark, x int) { m.Box.Y1 = x },
	}
}

func TestFieldsThatAKindDoesNotHave(t *testing.T) {
	has := map[int][]string{
		api.MarkText: {"Font", "Size", "X", "Y"},
		api.MarkRule: {"X0", "Y0", "X1", "Y1"},
		api.MarkClip: {"X0", "Y0", "X1", "Y1"},
		api.MarkEnd:  nil,
	}
	for _, m := range list(text(1), rule(0, 0, 9, 9), clip(0, 0, 9, 9), rule(0, 0, 0, 0), clip(0, 0, 0, 0), end()) {
		for name, change := range others() {
			if slices.Contains(has[m.Kind], name) {
				continue
			}
			for _, x := range []int{1, -1, 2, one, top, -top, 1 << 32, least, most} {
				bad(t, fmt.Sprint(name, " of kind ", m.Kind), changed(m, func(m *api.Mark) { change(m, x) }))
			}
		}
		if m.Kind == api.MarkText {
			bad(t, "a whole box", changed(m, func(m *api.Mark) { m.Box = box(1, 1, 2, 2) }))
			continue
		}
		for _, l := range [][]int{{0}, {1}, {-1}, {0, 0}, make([]int, 5000)} {
			bad(t, fmt.Sprint("glyphs of kind ", m.Kind), changed(m, func(m *api.Mark) { m.Glyphs = l }))
		}
		good(t, "a list of no glyphs", changed(m, func(m *api.Mark) { m.Glyphs = []int{} }))
		good(t, "a list of no glyphs with spare room", changed(m, func(m *api.Mark) { m.Glyphs = []int{1, 2}[:0] }))
	}
}

func TestClipsAndTheirEnds(t *testing.T) {
	c, e, r, x := clip(0, 0, 9, 9), end(), rule(0, 0, 1, 1), text(3)
	for i, l := range [][]api.Mark{
		{c, e}, {c, r, e}, {c, c, e, e}, {c, e, c, e}, {c, e, r, c, e}, {c, c, e, c, e, e}, {r, c, x, c, r, e, x, e, r}, {c, c, c, e, e, c, e, e, c, e},
	} {
		stands(t, fmt.Sprint("list ", i), l)
	}
	for i, l := range [][]api.Mark{
		{e}, {e, e}, {r, e}, {e, r}, {e, c}, {x, e, c, x}, {e, c, e}, {e, e, c, c}, {c, e, e}, {c, e, e, c}, {c, c, e, e, e}, {c, r, e, r, e}, {c, e, e, c, c, e}, // one too many, if only for a while
		{c}, {c, c}, {c, r}, {r, c}, {c, c, e}, {c, e, c}, {c, c, e, r}, {c, c, c, e, e}, {c, e, c, e, c}, // one too few
	} {
		refused(t, fmt.Sprint("wrong list ", i), l)
	}
}

func TestClipsInClips(t *testing.T) {
	for _, deep := range []int{1, 2, 16, 30, 31, 32} {
		stands(t, fmt.Sprint(deep, " deep"), nested(deep))
		stands(t, fmt.Sprint(deep, " deep, twice"), slices.Repeat(nested(deep), 2))
		l := nested(deep)
		stands(t, fmt.Sprint(deep, " deep, with marks in them"), slices.Concat(list(text(1)), l[:deep], list(rule(0, 0, 1, 1), text(2)), l[deep:], list(text(3))))
		refused(t, fmt.Sprint(deep, " deep, an end too few"), l[:len(l)-1])
		refused(t, fmt.Sprint(deep, " deep, an end too many"), append(l, end()))
		refused(t, fmt.Sprint(deep, " deep, a clip too few"), l[1:])
	}
	for _, deep := range []int{33, 34, 64, 100, 1000, 4096} {
		refused(t, fmt.Sprint(deep, " deep"), nested(deep))
		refused(t, fmt.Sprint(deep, " deep, behind others"), slices.Concat(nested(32), nested(deep)))
		refused(t, fmt.Sprint(deep, " deep, ahead of others"), slices.Concat(nested(deep), nested(1)))
		refused(t, fmt.Sprint(deep, " clips without an end"), slices.Repeat(list(clip(0, 0, 1, 1)), deep))
		refused(t, fmt.Sprint(deep, " ends"), slices.Repeat(list(end()), deep))
	}
}

func TestClipsBehindClips(t *testing.T) {
	for _, n := range []int{2, 32, 33, 34, 1000, 4096} {
		stands(t, fmt.Sprint(n, " behind one another"), slices.Repeat(nested(1), n))
	}
	// 31 around them leave room for one at a time.
	around := nested(31)
	stands(t, "one at a time", slices.Concat(around[:31], slices.Repeat(nested(1), 50), around[31:]))
	refused(t, "two at a time", slices.Concat(around[:31], slices.Repeat(nested(1), 50), nested(2), around[31:]))
	// Up and down, and up again, to 32 and to 33.
	for _, last := range []int{15, 16} {
		half := nested(17)
		l := slices.Concat(half[:17], nested(15), nested(3), nested(last), list(rule(0, 0, 1, 1)), half[17:])
		if last == 15 {
			stands(t, "up to 32 again", l)
		} else {
			refused(t, "up to 33", l)
		}
	}
}

func TestHowManyMarks(t *testing.T) {
	for _, m := range list(text(1), rule(0, 0, 1, 1)) {
		for _, n := range []int{8190, 8191, 8192} {
			stands(t, fmt.Sprint(n, " marks"), slices.Repeat(list(m), n))
		}
		for _, n := range []int{8193, 8194, 16384, 1 << 17} {
			refused(t, fmt.Sprint(n, " marks"), slices.Repeat(list(m), n))
		}
	}
	stands(t, "8192 clips and ends", slices.Repeat(nested(1), 4096))
	refused(t, "8194 clips and ends", slices.Repeat(nested(1), 4097))
	l := slices.Repeat(nested(1), 4096)
	refused(t, "a mark more", append(l, text(1)))
	refused(t, "a mark more ahead", append(list(text(1)), l...))
	refused(t, "8191 clips and ends", l[:8191])
	refused(t, "the last one is wrong", append(slices.Repeat(list(text(1)), 8191), text()))
	refused(t, "the first one is wrong", append(list(text()), slices.Repeat(list(text(1)), 8191)...))
	refused(t, "8193 marks of nothing", make([]api.Mark, 8193))
	if err := emit.Check(make([]api.Mark, 1<<22)); err != api.ErrMark {
		t.Errorf("marks of nothing: %v", err)
	}
}

// Check does not ask how long the text would be.
func TestLongTextsMayStand(t *testing.T) {
	for _, n := range []int{1 << 18, 1<<18 + 1, 1 << 22} {
		l := list(text(make([]int, n)...), text(make([]int, n)...))
		if err := emit.Check(l); err != api.OK {
			t.Errorf("%d glyphs: %v", n, err)
		}
		l[1].Glyphs[n-1] = 65536
		if err := emit.Check(l); err != api.ErrMark {
			t.Errorf("%d glyphs, the last one wrong: %v", n, err)
		}
	}
}
