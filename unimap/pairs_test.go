package unimap_test

import (
	"fmt"
	"slices"
	"testing"

	"colophon/api"
	"colophon/cmap"
	"colophon/unimap"
)

// P14.2

func TestPairs(t *testing.T) {
	shown(t, "none", nil)
	shown(t, "none, not nil", []api.Chars{})
	shown(t, "one", chars(97, 97, 5), 5, 97)
	shown(t, "a span", chars(97, 99, 5), 5, 97, 6, 98, 7, 99)
	shown(t, "rising by glyph, not by code", chars(97, 98, 5, 99, 99, 2, 100, 100, 9), 2, 99, 5, 97, 6, 98, 9, 100)
	shown(t, "the code point 0", chars(0, 0, 5), 5, 0)
	shown(t, "the code points 0 and 1", chars(0, 1, 1), 1, 0, 2, 1)
	shown(t, "blanks and controls are code points, too", chars(9, 13, 1, 127, 128, 7), 1, 9, 2, 10, 3, 11, 4, 12, 5, 13, 7, 127, 8, 128)
}

func TestTheLeastCodePoint(t *testing.T) {
	shown(t, "two of one glyph", chars(97, 97, 5, 98, 98, 5), 5, 97)
	shown(t, "the lesser one behind", chars(98, 98, 5, 97, 97, 5), 5, 97)
	shown(t, "three, the least in the midst", chars(200, 200, 5, 97, 97, 5, 150, 150, 5), 5, 97)
	shown(t, "spans", chars(97, 99, 5, 65, 66, 6), 5, 97, 6, 65, 7, 66)
	shown(t, "spans, the other way", chars(65, 66, 6, 97, 99, 5), 5, 97, 6, 65, 7, 66)
	shown(t, "0 is the least", chars(97, 97, 5, 0, 0, 5), 5, 0)
	shown(t, "the last and the first", chars(0x10ffff, 0x10ffff, 1, 0, 0, 1), 1, 0)
	shown(t, "the same span twice", chars(97, 99, 5, 97, 99, 5), 5, 97, 6, 98, 7, 99)
	// The lesser code is shown by another glyph: the first span holds it.
	shown(t, "the least one is another's", chars(97, 97, 3, 97, 99, 5, 200, 200, 5), 3, 97, 5, 200, 6, 98, 7, 99)
}

func TestSpansOverOneAnother(t *testing.T) {
	shown(t, "one within another, behind it", chars(97, 99, 5, 98, 98, 9), 5, 97, 6, 98, 7, 99)
	shown(t, "one within another, ahead of it", chars(98, 98, 9, 97, 99, 5), 5, 97, 7, 99, 9, 98)
	shown(t, "across its beginning", chars(97, 100, 5, 95, 98, 20), 5, 97, 6, 98, 7, 99, 8, 100, 20, 95, 21, 96)
	shown(t, "across its end", chars(97, 100, 5, 99, 102, 20), 5, 97, 6, 98, 7, 99, 8, 100, 22, 101, 23, 102)
	shown(t, "across two", chars(97, 98, 5, 101, 102, 8, 96, 103, 20), 5, 97, 6, 98, 8, 101, 9, 102, 20, 96, 23, 99, 24, 100, 27, 103)
	shown(t, "the same codes", chars(97, 99, 5, 97, 99, 9), 5, 97, 6, 98, 7, 99)
	shown(t, "the same codes, a part of them, again and again", chars(97, 97, 1, 97, 98, 2, 97, 99, 3, 97, 100, 4), 1, 97, 3, 98, 5, 99, 7, 100)
	shown(t, "from behind", chars(100, 100, 1, 99, 100, 2, 98, 100, 3, 97, 100, 4), 1, 100, 2, 99, 3, 98, 4, 97)
	shown(t, "what shows nothing hides what is behind it", chars(97, 97, 0, 97, 98, 5), 6, 98)
	shown(t, "what is below 0 hides, too", chars(97, 98, -1, 97, 99, 5), 7, 99)
	shown(t, "what is above all glyphs hides, too", chars(97, 97, 4096, 97, 98, 5), 6, 98)
	shown(t, "what goes above all glyphs", chars(97, 99, 4094, 97, 100, 5), 8, 100, 4094, 97, 4095, 98)
	shown(t, "all numbers ahead of it", chars(least, most, 7, 97, 97, 4))
	shown(t, "all numbers, shown by nothing", chars(least, most, 0, 97, 97, 4))
	shown(t, "all numbers behind it", chars(97, 97, 4, least, most, 7), 4, 97)
}

func TestSpansThatAreNone(t *testing.T) {
	shown(t, "First above Last", chars(5, 3, 7))
	shown(t, "First just above Last", chars(98, 97, 7))
	shown(t, "it hides nothing", chars(99, 97, 7, 97, 99, 5), 5, 97, 6, 98, 7, 99)
	shown(t, "from most to least", chars(most, least, 7, 97, 97, 5), 5, 97)
	shown(t, "from above the last code", chars(500, 3, 7, 97, 97, 5), 5, 97)
	shown(t, "behind one that is", chars(97, 97, 5, 99, 97, 7), 5, 97)
}

func TestGlyphsAtTheEnds(t *testing.T) {
	shown(t, "0", chars(97, 97, 0))
	shown(t, "0 and those behind it", chars(97, 99, 0), 1, 98, 2, 99)
	shown(t, "from below 0", chars(97, 102, -3), 1, 101, 2, 102)
	shown(t, "up to 0", chars(97, 100, -3))
	shown(t, "4095", chars(97, 97, 4095), 4095, 97)
	shown(t, "4096", chars(97, 97, 4096))
	shown(t, "across 4096", chars(97, 100, 4094), 4094, 97, 4095, 98)
	shown(t, "far above", chars(97, 200, 65536+5))
	shown(t, "as far above as may be", chars(97, 200, most))
	shown(t, "where a sum would turn round", chars(0, 200, most-100))
	shown(t, "far below", chars(97, 200, -65536))
	shown(t, "as far below as may be", chars(97, 200, least))
	shown(t, "far below, but near behind", chars(0, 65540, -65536), 1, 65537, 2, 65538, 3, 65539, 4, 65540)
	shown(t, "32 bits more", chars(97, 97, 1<<32+5, 98, 98, -1<<32+5))
	var all []int
	for g := 1; g < 4096; g++ {
		all = append(all, g, g)
	}
	shown(t, "all", chars(0, most, 0), all...)
}

func TestCodePointsAtTheEnds(t *testing.T) {
	shown(t, "55295", chars(55295, 55295, 1), 1, 55295)
	shown(t, "57344", chars(57344, 57344, 1), 1, 57344)
	shown(t, "55296 to 57343", chars(55296, 57343, 1))
	shown(t, "55296", chars(55296, 55296, 1, 57343, 57343, 2))
	shown(t, "55295 to 57344", chars(55295, 57344, 1), 1, 55295, 2050, 57344)
	shown(t, "what is no code point is not the least", chars(55296, 57344, 1, 60000, 60000, 1), 1, 60000, 2049, 57344)
	shown(t, "65535", chars(65535, 65535, 1), 1, 65535)
	shown(t, "65536", chars(65536, 65536, 1), 1, 65536)
	shown(t, "across 65535", chars(65534, 65537, 1), 1, 65534, 2, 65535, 3, 65536, 4, 65537)
	shown(t, "1114111", chars(1114111, 1114111, 1), 1, 1114111)
	shown(t, "1114112", chars(1114112, 1114112, 1))
	shown(t, "across 1114111", chars(1114110, 1114115, 1), 1, 1114110, 2, 1114111)
	shown(t, "1114111 and far behind", chars(1114111, most, 7), 7, 1114111)
	shown(t, "far behind", chars(1<<32, 1<<32+100, 7, most, most, 9, most-5, most, 10))
	shown(t, "-1", chars(-1, -1, 7))
	shown(t, "across 0", chars(-3, 2, 7), 10, 0, 11, 1, 12, 2)
	shown(t, "far ahead", chars(least, -1, 7, least, least, 9, -1<<32, -1<<32+200, 8))
	shown(t, "far ahead and up to 97", chars(least, 97, 7))
	shown(t, "far ahead, with a glyph as far below", chars(least, 2, least, least, 4, least+1), 1, 1, 2, 2, 4, 3, 5, 4)
}

// Numbers so great that a sum or a difference of them would turn round.
func TestGreatNumbers(t *testing.T) {
	firsts := []int{least, least + 97, -1 << 32, -1, 0, 97, 1 << 32, most}
	lasts := []int{least, -1, 97, 1<<32 + 97, most}
	glyphs := []int{least, least + 1, least + 97, -1 << 32, -4097, -1, 0, 1, 4000, 1<<32 + 97, most - 97, most - 1, most}
	for _, first := range firsts {
		for _, last := range lasts {
			var l []api.Chars
			for _, glyph := range glyphs {
				l = append(l, api.Chars{First: first, Last: last, Glyph: glyph})
				one := l[len(l)-1:]
				if got, want := unimap.Pairs(api.Face{Chars: one}), nearPairs(one); !slices.Equal(got, want) {
					t.Errorf("Pairs(%s) is %s; asked: %s", tell(one), tell(got), tell(want))
				}
			}
			l = append(l, api.Chars{First: 0, Last: 99, Glyph: 5})
			if got, want := unimap.Pairs(api.Face{Chars: l}), nearPairs(l); !slices.Equal(got, want) {
				t.Errorf("Pairs(%s) is %s; asked: %s", tell(l), tell(got), tell(want))
			}
		}
	}
}

// nearPairs is this test's own way for lists whose glyphs are shown by code
// points near the ends of all.
func nearPairs(l []api.Chars) []api.Pair {
	all := modelPairs(l, 20000)
	for c := 0x110000 - 20000; c < 0x110000; c++ {
		g := cmap.Find(l, c)
		if g != 0 && !slices.ContainsFunc(all, func(p api.Pair) bool { return p.Glyph == g }) {
			all = append(all, api.Pair{Glyph: g, Code: c})
		}
	}
	slices.SortFunc(all, func(a, b api.Pair) int { return a.Glyph - b.Glyph })
	return all
}

// Only the characters count: a face need not be one that may be.
func TestWhatPairsHangOn(t *testing.T) {
	f := api.Face{Chars: chars(97, 99, 5)}
	want := pairs(5, 97, 6, 98, 7, 99)
	for _, glyphs := range [][]string{nil, {""}, {"a", "b"}, make([]string, 8), make([]string, 5000)} {
		for _, m := range []api.Metrics{{}, sized(1000, 5), sized(-1, -2), {Upem: most}} {
			f.Glyphs, f.M = glyphs, m
			if got := unimap.Pairs(f); !slices.Equal(got, want) {
				t.Errorf("%d glyphs, %s: %s", len(glyphs), tell(m), tell(got))
			}
		}
	}
}

// Lists as if by chance, of spans in whatever order, over one another.
func TestManyPairs(t *testing.T) {
	for seed := range 20000 {
		next := numbers(seed)
		room := 5 + next(60)
		var l []api.Chars
		for range next(12) {
			first := next(room) - 5
			l = append(l, api.Chars{First: first, Last: first + next(20) - 2, Glyph: next(40) - 8})
			if next(9) == 0 {
				l[len(l)-1].Glyph = 4090 + next(8)
			}
		}
		if got, want := unimap.Pairs(api.Face{Chars: l}), modelPairs(l, 100); !slices.Equal(got, want) {
			t.Fatalf("seed %d: Pairs(%s) is %s; asked: %s", seed, tell(l), tell(got), tell(want))
		}
	}
	for seed := range 300 {
		next := numbers(seed)
		var l []api.Chars
		for range 1 + next(30) {
			first := 0xd700 + next(0xb00)
			l = append(l, api.Chars{First: first, Last: first + next(300), Glyph: next(300) - 100})
		}
		if got, want := unimap.Pairs(api.Face{Chars: l}), modelPairs(l, 0xe800); !slices.Equal(got, want) {
			t.Fatalf("seed %d: Pairs(%s) is %s; asked: %s", seed, tell(l), tell(got), tell(want))
		}
	}
}

// Lists that are long, whose spans all lie over one another: each code point is
// asked only once.
func TestLongLists(t *testing.T) {
	const n = 300000
	all := make([]api.Chars, n)
	for i := range all {
		all[i] = api.Chars{First: least, Last: most, Glyph: i}
	}
	if got := unimap.Pairs(api.Face{Chars: all}); len(got) != 0 {
		t.Errorf("%s", tell(got))
	}
	for i := range all {
		all[i] = api.Chars{First: n - i, Last: most, Glyph: 1 + i%4095}
	}
	got := unimap.Pairs(api.Face{Chars: all})
	if len(got) != 4095 {
		t.Fatal(len(got))
	}
	for i, p := range got {
		if p.Glyph != i+1 {
			t.Fatalf("%+v at %d", p, i)
		}
	}
	for i := range all {
		all[i] = api.Chars{First: i, Last: n, Glyph: 1}
	}
	if got := unimap.Pairs(api.Face{Chars: all}); !slices.Equal(got[:2], pairs(1, 0, 2, 1)) || len(got) != 4095 {
		t.Errorf("%s", tell(got))
	}
	var good []api.Chars
	for i := range 4095 {
		good = append(good, api.Chars{First: 3 * i, Last: 3 * i, Glyph: 4095 - i})
	}
	got = unimap.Pairs(api.Face{Chars: good})
	for i, p := range got {
		if p != (api.Pair{Glyph: i + 1, Code: 3 * (4094 - i)}) {
			t.Fatalf("%+v at %d", p, i)
		}
	}
	if len(got) != 4095 || !cmap.Good(good, 4096) {
		t.Error(len(got))
	}
}

// P14.2 to P14.4 together: what is told of a face can be written, and read.
func TestPairsAreWritten(t *testing.T) {
	for _, l := range [][]api.Chars{nil, chars(97, 99, 5), chars(0, most, 0), chars(0xd000, 0x10ffff, 1), chars(0x10ff00, 0x10ffff, 3000, 32, 126, 1)} {
		written(t, fmt.Sprint(l), unimap.Pairs(api.Face{Chars: l}))
	}
}
