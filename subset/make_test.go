package subset_test

import (
	"fmt"
	"slices"
	"strings"
	"testing"

	"colophon/api"
	"colophon/cmap"
	"colophon/face"
	"colophon/subset"
)

// P13.2

// odd are the odd numbers below n.
func odd(n int) []int {
	var l []int
	for x := 1; x < n; x += 2 {
		l = append(l, x)
	}
	return l
}

func TestPartsOfTooManySpans(t *testing.T) {
	f := dots(4096)
	used := odd(4096) // 2048 of them
	for _, x := range []struct {
		what  string
		chars []int
		spans int
	}{
		{"one span", []int{0, 4094, 1}, 2048},
		{"two spans", []int{0, 4094, 1, 10000, 14094, 1}, 4096},
		{"two spans, and one that is left out", []int{0, 4094, 1, 10000, 14094, 1, 20000, 20000, 2}, 4096},
		{"two spans, and one more", []int{0, 4094, 1, 10000, 14094, 1, 20000, 20000, 1}, 4097},
		{"one more, and two spans", []int{0, 0, 1, 10000, 14094, 1, 20000, 24094, 1}, 4097},
		{"one more between two spans", []int{0, 4094, 1, 5000, 5000, 4095, 10000, 14094, 1}, 4097},
		{"three spans", []int{0, 4094, 1, 10000, 14094, 1, 20000, 24094, 1}, 6144},
		{"spans that have to be joined", []int{0, 4094, 1, 10000, 14092, 1, 14093, 14093, 4095}, 4095},
		{"spans that have to be joined, and one more", []int{0, 4094, 1, 10000, 14092, 1, 14093, 14093, 4095, 20000, 20000, 7}, 4096},
		{"spans that have to be joined, and two more", []int{0, 4094, 1, 10000, 14092, 1, 14093, 14093, 4095, 20000, 20000, 7, 20002, 20002, 9}, 4097},
		{"beyond 65535", []int{70000, 74094, 1, 1110017, 1114111, 1}, 4096},
		{"beyond 65535, and one more", []int{65535, 65535, 1, 70000, 74094, 1, 1110017, 1114111, 1}, 4097},
	} {
		f := showing(f, x.chars...)
		if x.spans > api.MaxSpans {
			unmade(t, x.what, f, used, api.ErrCmap)
			closed := append([]int{0}, used...)
			if l, err := subset.Close(f, used); !slices.Equal(l, closed) || err != api.OK {
				t.Errorf("%s: Close is %s, %v", x.what, tell(l), err)
			}
			// Close's error comes first.
			refused(t, x.what+", no glyph", f, append(slices.Clone(used), 4096), api.ErrArg)
			refused(t, x.what+", no glyph first", f, append([]int{-1}, used...), api.ErrArg)
			loop := copied(f)
			loop.Glyphs[4] = of(4)
			refused(t, x.what+", a loop", loop, used, api.ErrLoop)
			// With fewer glyphs, or with all, there are few spans.
			kept(t, x.what+", fewer", f, used[:1000])
			kept(t, x.what+", all", f, upTo(0, 4095))
			continue
		}
		if part := kept(t, x.what, f, used); len(part.Chars) != x.spans {
			t.Errorf("%s: %d spans; asked: %d", x.what, len(part.Chars), x.spans)
		}
	}
}

// The whole font's list may be as long as may be itself.
func TestManySpans(t *testing.T) {
	f := dots(4096)
	for i := range 4096 {
		f.Chars = append(f.Chars, api.Chars{First: 2 * i, Last: 2 * i, Glyph: 1 + i%4095})
	}
	if part := kept(t, "all", f, upTo(0, 4095)); len(part.Chars) != 4096 {
		t.Errorf("all: %d spans", len(part.Chars))
	}
	if part := kept(t, "odd ones", f, odd(4096)); len(part.Chars) != 2049 {
		t.Errorf("odd ones: %d spans", len(part.Chars))
	}
	shows(t, "one", f, []int{1}, 0, 0, 1, 8190, 8190, 1)
	shows(t, "none", f, nil)
	// Neighbours that skip a glyph each are one span without those between.
	f.Chars = nil
	for i := range 2048 {
		f.Chars = append(f.Chars, api.Chars{First: 100 + i, Last: 100 + i, Glyph: 1 + 2*i})
	}
	shows(t, "joined, all of them", f, odd(4096), 100, 2147, 1)
	f.Chars = append(f.Chars, f.Chars...)
	for i := range 2048 {
		f.Chars[2048+i].First, f.Chars[2048+i].Last = 70000+i, 70000+i
	}
	shows(t, "joined to two", f, odd(4096), 100, 2147, 1, 70000, 72047, 1)
	// A span of two, of which either is left out, as often as may be.
	f.Chars = nil
	for i := range 4096 {
		f.Chars = append(f.Chars, api.Chars{First: 3 * i, Last: 3*i + 1, Glyph: 5})
	}
	if part := kept(t, "first ones", f, []int{5}); len(part.Chars) != 4096 || part.Chars[4095] != (api.Chars{First: 12285, Last: 12285, Glyph: 1}) {
		t.Errorf("first ones: %d spans", len(part.Chars))
	}
	if part := kept(t, "second ones", f, []int{6}); len(part.Chars) != 4096 || part.Chars[4095] != (api.Chars{First: 12286, Last: 12286, Glyph: 1}) {
		t.Errorf("second ones: %d spans", len(part.Chars))
	}
}

func TestCharacters(t *testing.T) {
	f := showing(dots(10), 97, 101, 1)
	shows(t, "none", f, nil)
	shows(t, "no character", f, []int{6, 9})
	shows(t, "no character and one", f, []int{6, 9, 3}, 99, 99, 1)
	shows(t, "the first", f, []int{1}, 97, 97, 1)
	shows(t, "the last", f, []int{5}, 101, 101, 1)
	shows(t, "one in the midst", f, []int{3}, 99, 99, 1)
	shows(t, "cut at its beginning", f, []int{3, 4, 5}, 99, 101, 1)
	shows(t, "cut at its end", f, []int{1, 2, 3}, 97, 99, 1)
	shows(t, "cut at both", f, []int{2, 3, 4}, 98, 100, 1)
	shows(t, "cut in its midst", f, []int{1, 2, 4, 5}, 97, 98, 1, 100, 101, 3)
	shows(t, "cut twice in its midst", f, []int{1, 3, 5}, 97, 97, 1, 99, 99, 2, 101, 101, 3)
	shows(t, "whole", f, []int{1, 2, 3, 4, 5}, 97, 101, 1)
	shows(t, "whole, moved", showing(dots(10), 97, 101, 4), []int{4, 5, 6, 7, 8}, 97, 101, 1)
	shows(t, "whole, moved behind another", showing(dots(10), 97, 101, 4), []int{2, 4, 5, 6, 7, 8}, 97, 101, 2)
	shows(t, "to the last glyph", showing(dots(10), 97, 105, 1), []int{9}, 105, 105, 1)
	shows(t, "no characters at all", dots(10), []int{1, 2})
	shows(t, "one glyph", dots(1), []int{0})
	shows(t, "glyph 0 shows nothing", showing(dots(2), 0, 0, 1), []int{0})
	shows(t, "the code point 0", showing(dots(3), 0, 0, 2), []int{2}, 0, 0, 1)

	several := showing(dots(10), 65, 66, 1, 97, 98, 1, 200, 200, 2, 201, 201, 2, 300, 302, 1)
	shows(t, "several, one glyph", several, []int{2}, 66, 66, 1, 98, 98, 1, 200, 200, 1, 201, 201, 1, 301, 301, 1)
	shows(t, "several, another one", several, []int{1}, 65, 65, 1, 97, 97, 1, 300, 300, 1)
	shows(t, "several, two", several, []int{3, 1}, 65, 65, 1, 97, 97, 1, 300, 300, 1, 302, 302, 2)

	component := showing(made("", dot, of(1), of(2)), 97, 97, 1, 98, 98, 3, 99, 99, 2)
	shows(t, "components are shown, too", component, []int{3}, 97, 97, 1, 98, 98, 3, 99, 99, 2)
	shows(t, "components are shown, but not what is made of them", component, []int{2}, 97, 97, 1, 99, 99, 2)
}

func TestSpansThatAreJoined(t *testing.T) {
	f := showing(dots(10), 97, 98, 1, 99, 99, 5, 100, 101, 8)
	shows(t, "three to one", f, []int{1, 2, 5, 8, 9}, 97, 101, 1)
	shows(t, "two to one, the third apart", f, []int{1, 2, 5, 7, 8, 9}, 97, 99, 1, 100, 101, 5)
	shows(t, "the last two to one", f, []int{1, 2, 3, 5, 8, 9}, 97, 98, 1, 99, 101, 4)
	shows(t, "not at all", f, []int{1, 2, 3, 5, 6, 8, 9}, 97, 98, 1, 99, 99, 4, 100, 101, 6)
	shows(t, "what is cut and joined", f, []int{2, 5, 8}, 98, 100, 1)
	shows(t, "cut where they meet, at the end", f, []int{1, 5, 8}, 97, 97, 1, 99, 100, 2)
	shows(t, "cut where they meet, at the beginning", f, []int{1, 2, 5, 9}, 97, 99, 1, 101, 101, 4)
	shows(t, "one between is left out", f, []int{1, 2, 8, 9}, 97, 98, 1, 100, 101, 3)

	shows(t, "glyphs that fall", showing(dots(10), 97, 97, 5, 98, 98, 3, 99, 99, 1), []int{1, 3, 5}, 97, 97, 3, 98, 98, 2, 99, 99, 1)
	shows(t, "the same glyph", showing(dots(10), 97, 97, 5, 98, 98, 5), []int{5}, 97, 97, 1, 98, 98, 1)
	shows(t, "codes that are not neighbours", showing(dots(10), 97, 97, 1, 99, 99, 2), []int{1, 2}, 97, 97, 1, 99, 99, 2)
	shows(t, "codes that are not neighbours, glyphs that become so", showing(dots(10), 97, 97, 1, 99, 99, 5), []int{1, 5}, 97, 97, 1, 99, 99, 2)
	shows(t, "a glyph between that shows another", showing(dots(10), 50, 50, 3, 97, 97, 1, 98, 98, 5), []int{1, 3, 5}, 50, 50, 2, 97, 97, 1, 98, 98, 3)
	shows(t, "across what is no code point", showing(dots(10), 55295, 55295, 1, 57344, 57344, 2), []int{1, 2}, 55295, 55295, 1, 57344, 57344, 2)
	shows(t, "on both sides of what is no code point", showing(dots(20), 55290, 55295, 1, 57344, 57350, 7), []int{3, 6, 7, 9}, 55292, 55292, 1, 55295, 55295, 2, 57344, 57344, 3, 57346, 57346, 4)
}

func TestCodePointsBeyond(t *testing.T) {
	f := showing(dots(40), 65530, 65540, 1, 65541, 65541, 20, 70000, 70009, 3, 1114100, 1114111, 5)
	shows(t, "across 65535", f, []int{5, 6, 7, 8}, 65534, 65537, 1, 70002, 70005, 1, 1114100, 1114103, 1)
	shows(t, "from 65536 on", f, []int{7, 8}, 65536, 65537, 1, 70004, 70005, 1, 1114102, 1114103, 1)
	shows(t, "joined beyond", f, []int{11, 20}, 65540, 65541, 1, 70008, 70008, 1, 1114106, 1114106, 1)
	shows(t, "the last code point", f, []int{16}, 1114111, 1114111, 1)
	shows(t, "the last two", f, []int{16, 15}, 1114110, 1114111, 1)
}

// All code points are asked, not only those that lists name.
func TestEachCodePoint(t *testing.T) {
	f := showing(dots(600), 0, 5, 1, 32, 126, 1, 127, 127, 300, 128, 130, 97, 160, 255, 90, 1000, 1500, 50, 55290, 55295, 3, 57344, 57350, 9, 65500, 65600, 200, 1114000, 1114111, 400)
	everyCode(t, "none", f, nil)
	everyCode(t, "some", f, []int{1, 2, 3, 96, 97, 98, 99, 300, 301, 400, 420, 511})
	everyCode(t, "odd ones", f, odd(600))
	everyCode(t, "all", f, upTo(0, 599))
}

func TestMetrics(t *testing.T) {
	for _, long := range []bool{false, true} {
		f := base()
		f.M = api.Metrics{Upem: 2048, Ascent: 1901, Descent: -483, Gap: -7, Box: [4]int{-11, -22, 33, 44}, Long: long,
			Advance: []int{65535, 0, 3, 1000, 5, 6}, Bearing: []int{-32768, 32767, 0, -1, 2, -3}}
		part, old, err := subset.Make(f, []int{5, 3})
		if !slices.Equal(old, []int{0, 1, 2, 3, 5}) || err != api.OK {
			t.Fatalf("%v, %v", old, err)
		}
		m := part.M
		if m.Upem != 2048 || m.Ascent != 1901 || m.Descent != -483 || m.Gap != -7 || m.Box != [4]int{-11, -22, 33, 44} {
			t.Errorf("%+v", m)
		}
		if !m.Long || f.M.Long != long {
			t.Errorf("Long is %v of the part, %v of the face", m.Long, f.M.Long)
		}
		if !slices.Equal(m.Advance, []int{65535, 0, 3, 1000, 6}) || !slices.Equal(m.Bearing, []int{-32768, 32767, 0, -1, -3}) {
			t.Errorf("%v, %v", m.Advance, m.Bearing)
		}
		part, _, _ = subset.Make(f, nil)
		if !slices.Equal(part.M.Advance, []int{65535}) || !slices.Equal(part.M.Bearing, []int{-32768}) || !part.M.Long {
			t.Errorf("%+v", part.M)
		}
		part, _, _ = subset.Make(f, upTo(0, 5))
		f.M.Long = true
		if !same(part, f) {
			t.Errorf("all of %s is %s", tell(f), tell(part))
		}
	}
}

// glyphsAre fails, unless the part has just these glyphs.
func glyphsAre(t *testing.T, what string, f api.Face, used []int, want ...string) {
	t.Helper()
	part := kept(t, what, f, used)
	if !slices.Equal(part.Glyphs, want) {
		t.Errorf("%s: %x; asked: %x", what, part.Glyphs, want)
	}
}

func TestGlyphs(t *testing.T) {
	f := made("", dot, line, dot+zeros(3), of(3), of(4, 2), "", of(6, 0))
	glyphsAre(t, "none", f, nil, "")
	glyphsAre(t, "a simple one", f, []int{2}, "", line)
	glyphsAre(t, "one that is filled up", f, []int{3}, "", dot+zeros(3))
	glyphsAre(t, "an empty one", f, []int{6, 1}, "", dot, "")
	glyphsAre(t, "of one", f, []int{4}, "", dot+zeros(3), of(1))
	glyphsAre(t, "of one, nothing left out", f, []int{4, 1, 2}, "", dot, line, dot+zeros(3), of(3))
	glyphsAre(t, "of two", f, []int{5}, "", line, dot+zeros(3), of(2), of(3, 1))
	glyphsAre(t, "of 0", f, []int{7}, "", "", of(1, 0))
	glyphsAre(t, "all", f, upTo(0, 7), f.Glyphs...)
	glyphsAre(t, "0 is composite", made(of(3), dot, dot, line), nil, of(1), line)
	glyphsAre(t, "components behind", made("", dot, of(5, 4), dot, dot, line), []int{2}, "", of(3, 2), dot, line)
	// Components that look like one another's new numbers.
	glyphsAre(t, "new numbers that are old ones", made("", dot, line, dot, of(2, 3, 2, 3), dot, of(4, 3)), []int{6}, "", line, dot, of(1, 2, 1, 2), of(3, 2))
}

func TestComponentsOfAllKinds(t *testing.T) {
	for i, k := range kinds() {
		what := fmt.Sprint("kind ", i)
		f := made("", dot, line, dot, k.of(2), k.of(5+1, 2, 5+1), line, k.of(4, 3, 2, 6))
		glyphsAre(t, what+", of one", f, []int{4}, "", line, k.of(1))
		glyphsAre(t, what+", of three", f, []int{5}, "", line, k.of(3, 1, 3), line)
		glyphsAre(t, what+", of others", f, []int{7}, "", line, dot, k.of(1), line, k.of(3, 2, 1, 4))
		glyphsAre(t, what+", all", f, upTo(0, 7), f.Glyphs...)
		many := slices.Repeat([]int{2, 3}, 32)
		fewer := slices.Repeat([]int{1, 2}, 32)
		glyphsAre(t, what+", of 64", made("", dot, line, dot, k.of(many...)), []int{4}, "", line, dot, k.of(fewer...))
	}
	// Numbers of which both bytes count.
	glyphs := slices.Repeat([]string{dot}, 4096)
	glyphs[4095] = of(4094, 511, 512, 256, 255)
	glyphsAre(t, "great numbers", made(glyphs...), []int{4095}, dot, dot, dot, dot, dot, dot, of(5, 3, 4, 2, 1))
	part := kept(t, "a great number that stays great", made(glyphs...), upTo(2, 4095))
	if len(part.Glyphs) != 4095 || part.Glyphs[4094] != of(4093, 510, 511, 255, 254) {
		t.Errorf("%d glyphs, the last one %x", len(part.Glyphs), part.Glyphs[4094])
	}
}

func TestWaysDownAreKept(t *testing.T) {
	for k := range api.MaxDepth + 1 {
		for _, order := range orders(k + 4) {
			for from := range k + 1 {
				kept(t, fmt.Sprint(k, " composite glyphs, from ", from), chain(k, order), []int{order[from]})
			}
		}
	}
	down := chain(8, []int{18, 16, 14, 12, 10, 8, 6, 4, 2, 0, 1, 3, 5, 7, 9, 11, 13, 15, 17, 19})
	glyphsAre(t, "a way of eight", down, []int{18}, dot, dot, of(1), of(2), of(3), of(4), of(5), of(6), of(7), of(8))
}

// As much as a face can hold: each number of a component has to be found.
func TestAWholeFace(t *testing.T) {
	glyphs := slices.Repeat([]string{dot}, 4096)
	for i := range 4000 {
		var parts []int
		for j := range 64 {
			parts = append(parts, 4095-j-i%30)
		}
		glyphs[i] = of(parts...)
	}
	f := made(glyphs...)
	part, old, err := subset.Make(f, upTo(0, 4095))
	f.M.Long = true
	if !same(part, f) || len(old) != 4096 || err != api.OK {
		t.Errorf("%d glyphs, %v", len(old), err)
	}
}

// A part of a part is the part of the whole.
func TestPartsOfParts(t *testing.T) {
	for seed := range 1000 {
		next := numbers(seed)
		n := 2 + next(30)
		f := someFace(next, n)
		var used []int
		for range next(9) {
			used = append(used, next(n))
		}
		part, old, err := subset.Make(f, used)
		if err != api.OK {
			t.Fatal(seed, err)
		}
		var fewer, fewerOld []int
		for i, g := range old {
			if next(3) == 0 {
				fewer, fewerOld = append(fewer, i), append(fewerOld, g)
			}
		}
		one, oldOne, err := subset.Make(part, fewer)
		two, oldTwo, errTwo := subset.Make(f, fewerOld)
		for i := range oldOne {
			oldOne[i] = old[oldOne[i]]
		}
		if !same(one, two) || !slices.Equal(oldOne, oldTwo) || err != api.OK || errTwo != api.OK {
			t.Errorf("seed %d: %s, %v; asked: %s, %v", seed, tell(one), oldOne, tell(two), oldTwo)
		}
	}
}

// P13.4, with the layers below: what is made can be saved, and loaded again.
func TestPartsAreFonts(t *testing.T) {
	f := showing(made("", dot, line, dot+zeros(3), of(3), of(4, 2), "", of(6, 0)), 97, 103, 1)
	for _, used := range [][]int{nil, {1}, {4}, {5}, {7, 1}, upTo(0, 7)} {
		part, old, err := subset.Make(f, used)
		if err != api.OK {
			t.Fatal(used, err)
		}
		s, err := face.Save(part)
		if err != api.OK {
			t.Fatal(used, err)
		}
		back, err := face.Load(s)
		if err != api.OK || !back.M.Long || len(back.Glyphs) != len(old) || !slices.Equal(back.Chars, part.Chars) || !slices.Equal(back.M.Advance, part.M.Advance) {
			t.Errorf("%v comes back as %s, %v", used, tell(back), err)
		}
		for i, g := range back.Glyphs {
			if !strings.HasPrefix(g, part.Glyphs[i]) {
				t.Errorf("%v: the glyph %d comes back as %x", used, i, g)
			}
		}
		for c := 97; c <= 103; c++ {
			at, ok := subset.Place(old, cmap.Find(f.Chars, c))
			if g := cmap.Find(back.Chars, c); g != at || ok != (g != 0) {
				t.Errorf("%v: %d is shown by %d", used, c, g)
			}
		}
	}
}
