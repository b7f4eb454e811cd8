package cmap_test

import (
	"fmt"
	"slices"
	"strings"
	"testing"
	"unsafe"

	"colophon/api"
	"colophon/cmap"
)

func TestTheChaptersExamples(t *testing.T) {
	s := built(t, "none, wide", nil, true)
	if len(s) != 28 || hexes(s[12:]) != "00 0c 00 00 00 00 00 10 00 00 00 00 00 00 00 00" {
		t.Errorf("%x", s)
	}
	sought(t, chars(97, 99, 5), 98, 6)
	sought(t, chars(97, 99, 5), 100, 0)
	right(t, "groups that are one", wide(65, 66, 1, 67, 67, 3), 4, 65, 67, 1)
	wrong(t, "3/0 alone", table(row{3, 0, grouped(65, 66, 1).text()}), 4)
	wrong(t, "3/0 alone, narrow", table(row{3, 0, ended(65, 66, 1-65, 0).text()}), 4)
	wrong(t, "a group that sends to n", wide(65, 67, 1), 3)
}

// P11.2: Good.

func TestGoodLists(t *testing.T) {
	for _, n := range []int{least, -1, 0, 1, 2, 4096, most} {
		good(t, "nil", nil, n, true)
		good(t, "none", []api.Chars{}, n, true)
	}
	for _, l := range [][]int{
		{97, 99, 5},
		{0, 0, 1},
		{0, 7, 1, 8, 9, 1},
		{0, 5, 1, 6, 6, 9},
		{55295, 55295, 1},
		{57344, 57344, 1},
		{55295, 55295, 1, 57344, 57344, 2},
		{65535, 65536, 1},
		{1114111, 1114111, 9},
		{5, 5, 3, 6, 6, 3, 7, 7, 3},
		{5, 5, 3, 7, 7, 4},
		{5, 6, 3, 7, 7, 4},
		{5, 6, 3, 7, 7, 6},
	} {
		good(t, "a list", chars(l...), 10, true)
		good(t, "a list, for more glyphs", chars(l...), most, true)
		for _, n := range []int{least, least + 1, -1, 0, 1} {
			good(t, "a list, for none", chars(l...), n, false)
		}
	}
}

func TestListsThatAreNotGood(t *testing.T) {
	for what, l := range map[string][]int{
		"First above Last":                     {6, 5, 1},
		"First far above Last":                 {1114111, 0, 1},
		"First above Last, the greatest":       {most, least, 1},
		"Glyph 0":                              {5, 5, 0},
		"Glyph 0, and more":                    {5, 9, 0},
		"Glyph below 0":                        {5, 5, -1},
		"Glyph below 0, the last above":        {5, 9, -1},
		"the least Glyph":                      {5, 5, least},
		"First below 0":                        {-1, 5, 1},
		"all below 0":                          {-5, -1, 1},
		"the least First":                      {least, 0, 1},
		"the least of all":                     {least, least, 1},
		"Last above all":                       {1114111, 1114112, 1},
		"all above all":                        {1114112, 1114112, 1},
		"the greatest Last":                    {0, most, 1},
		"all":                                  {least, most, 1},
		"the greatest":                         {most, most, 1},
		"the first that is no code point":      {55296, 55296, 1},
		"the last that is none":                {57343, 57343, 1},
		"one between":                          {56000, 56001, 1},
		"up to the first":                      {55290, 55296, 1},
		"from the last on":                     {57343, 57344, 1},
		"over all of them":                     {55295, 57344, 1},
		"over all of them, from 0 on":          {0, 1114111, 1},
		"First is the Last ahead":              {5, 6, 1, 6, 7, 5},
		"First is below the Last ahead":        {5, 6, 1, 5, 7, 5},
		"First is below the First ahead":       {5, 6, 1, 3, 3, 5},
		"the same again":                       {5, 6, 1, 5, 6, 1},
		"it goes on":                           {5, 6, 1, 7, 7, 3},
		"it goes on, of one":                   {5, 5, 1, 6, 6, 2},
		"it goes on, of many":                  {5, 104, 1, 105, 105, 101},
		"the third goes on":                    {1, 1, 7, 5, 6, 1, 7, 7, 3},
		"the third falls":                      {1, 1, 7, 5, 6, 1, 4, 4, 3},
		"the second of three has Glyph 0":      {1, 1, 7, 5, 6, 0, 9, 9, 3},
		"the last of three has First above":    {1, 1, 7, 5, 6, 1, 10, 9, 3},
		"the greatest Glyph and more":          {0, 1, most},
		"a great Glyph and so many more":       {57344, 1114111, most - 5},
		"all numbers, and the sum wraps round": {least, most, least + 10},
	} {
		for _, n := range []int{least, -1, 0, 1, 2, 110, 4096, 65536, most} {
			good(t, what, chars(l...), n, false)
		}
	}
}

func TestGlyphsOfGoodLists(t *testing.T) {
	for _, glyph := range []int{1, 2, 255, 256, 4090, 4095, 4096, 65535, 65536, 1 << 32, most - 10} {
		for _, more := range []int{0, 1, 9} {
			l := chars(100, 100+more, glyph)
			good(t, "just enough", l, glyph+more+1, true)
			good(t, "one too few", l, glyph+more, false)
			good(t, "as many as the first", l, glyph+1, more == 0)
			good(t, "more than enough", l, most, true)
			good(t, "fewer than none", l, -glyph, false)
			good(t, "of the second", append(chars(1, 1, 1), l...), glyph+more, false)
			good(t, "of the second, just enough", append(chars(1, 1, 1), l...), glyph+more+1, true)
		}
	}
	good(t, "the greatest glyph but one", chars(5, 5, most-1), most, true)
	good(t, "the greatest glyph", chars(5, 5, most), most, false)
	good(t, "it would go on at the greatest", chars(5, 5, most-2, 6, 6, most-1), most, false)
	good(t, "up to the greatest", chars(0, 55295, most-55296, 57344, 57344, 1), most, true)
	good(t, "one beyond the greatest", chars(0, 55295, most-55295), most, false)
	good(t, "as far as a span can be", chars(57344, 1114111, 1), 1114111-57344+2, true)
	good(t, "one too few for it", chars(57344, 1114111, 1), 1114111-57344+1, false)
}

func TestLengthsOfGoodLists(t *testing.T) {
	for _, count := range []int{1, 4095, 4096} {
		good(t, fmt.Sprint(count, " spans"), apartFrom(70000, count), 4096, true)
		good(t, fmt.Sprint(count, " spans, of too few glyphs"), apartFrom(70000, count), min(count, 4095), false)
	}
	for _, count := range []int{4097, 4098, 10000, 100000} {
		good(t, fmt.Sprint(count, " spans"), apartFrom(70000, count), 4096, false)
		good(t, fmt.Sprint(count, " spans"), apartFrom(70000, count), most, false)
	}
	good(t, "more, and all of them are nothing", make([]api.Chars, 5000), most, false)
	last := apartFrom(70000, 4096)
	last[4095].First = last[4094].Last
	good(t, "the very last one", last, 4096, false)
}

func TestManyLists(t *testing.T) {
	edges := []int{least, -1, 0, 1, 5, 6, 7, 55294, 55295, 55296, 57343, 57344, 57345, 1114110, 1114111, 1114112, most}
	for _, first := range edges {
		for _, last := range edges {
			for _, glyph := range []int{least, -1, 0, 1, 2, 2049, 4095, 4096, most} {
				for _, n := range []int{least, 0, 1, 2, 3, 2050, 2051, 4096, most} {
					l := chars(first, last, glyph)
					good(t, "of all kinds", l, n, modelGood(l, n))
				}
			}
		}
	}
	done := 0
	for seed := range 20000 {
		next := numbers(seed)
		l := listBySeed(next)
		n := []int{10, 20, 4096, most}[next(4)]
		want := modelGood(l, n)
		good(t, fmt.Sprint("seed ", seed), l, n, want)
		if want {
			done++
		}
	}
	if done < 3000 || done > 17000 {
		t.Errorf("%d of 20000 are good: too few of one kind", done)
	}
}

// listBySeed is a list that is good more often than not for some 20 glyphs.
func listBySeed(next func(int) int) []api.Chars {
	at := []int{0, 65, 55285, 57340, 65520, 1114080}[next(6)]
	glyph := 1 + next(8)
	var l []api.Chars
	for range next(6) {
		first := at + next(3)
		last := first + next(4) - next(40)/39
		l = append(l, api.Chars{First: first, Last: last, Glyph: glyph})
		at = last + 1 - next(30)/29
		if next(8) > 0 {
			glyph = 1 + next(12)
		} else {
			glyph += last - first + 1
		}
	}
	return l
}

// P11.2: Find.

// sought fails, unless Find tells a glyph.
func sought(t *testing.T, l []api.Chars, c, want int) {
	t.Helper()
	if g := cmap.Find(l, c); g != want {
		t.Errorf("Find(%s, %d) is %d; asked: %d", tell(l), c, g, want)
	}
	if g := modelFind(l, c); g != want {
		t.Errorf("this test's own Find(%s, %d) is %d", tell(l), c, g)
	}
}

func TestFindInGoodLists(t *testing.T) {
	l := chars(32, 32, 1, 65, 90, 2, 91, 91, 40, 55295, 55295, 7, 57344, 57344, 8, 1114111, 1114111, 4095)
	for c, want := range map[int]int{31: 0, 32: 1, 33: 0, 64: 0, 65: 2, 66: 3, 89: 26, 90: 27, 91: 40, 92: 0, 55294: 0, 55295: 7, 55296: 0, 57343: 0, 57344: 8, 57345: 0, 1114110: 0, 1114111: 4095, 1114112: 0, 0: 0, -1: 0, least: 0, most: 0, 1<<32 + 65: 0} {
		sought(t, l, c, want)
	}
	sought(t, nil, 0, 0)
	sought(t, []api.Chars{}, 65, 0)
	sought(t, nil, least, 0)
	sought(t, nil, most, 0)
	many := apartFrom(70000, 4096)
	for i := range 4096 {
		sought(t, many, 70000+2*i, 1+i%4095)
		sought(t, many, 70001+2*i, 0)
	}
}

func TestFindInListsThatAreNotGood(t *testing.T) {
	sought(t, chars(97, 99, 5, 90, 98, 40), 98, 6) // the first one
	sought(t, chars(90, 98, 40, 97, 99, 5), 98, 48)
	sought(t, chars(97, 99, 5, 90, 98, 40), 96, 46) // that holds it
	sought(t, chars(97, 99, 0, 97, 99, 5), 97, 0)   // even if it tells nothing
	sought(t, chars(97, 99, 0, 97, 99, 5), 98, 1)
	sought(t, chars(97, 99, 4095, 97, 99, 5), 98, 0)
	sought(t, chars(99, 97, 5), 98, 0) // none is held
	sought(t, chars(99, 97, 5, 98, 98, 7), 98, 7)
	sought(t, chars(70, 70, 1, 65, 65, 2), 65, 2) // falling
	sought(t, chars(55296, 57343, 1), 56000, 705) // no code points
	sought(t, chars(-5, 5, 1), -5, 1)
	sought(t, chars(-5, 5, 1), -1, 5)
	sought(t, chars(1114112, 1<<40, 1), 1114113, 2)
	sought(t, make([]api.Chars, 5000), 0, 0)
	sought(t, append(make([]api.Chars, 5000), api.Chars{First: 7, Last: 7, Glyph: 9}), 7, 9)
}

func TestNumbersThatFindTells(t *testing.T) {
	l := chars(0, 9000, -3)
	for c, want := range map[int]int{0: 0, 1: 0, 2: 0, 3: 0, 4: 1, 5: 2, 4097: 4094, 4098: 4095, 4099: 0, 4100: 0, 9000: 0, 9001: 0} {
		sought(t, l, c, want)
	}
	for _, first := range []int{least, least + 1, -1 << 62, -4096, -1, 0, 1, 65, 1 << 40, 1 << 62, most - 4100} {
		for _, glyph := range []int{least, least + 1, -1 << 62, -65536, -4097, -4096, -4095, -2, -1, 0, 1, 2, 4094, 4095, 4096, 4097, 65536, 1 << 32, 1<<32 + 1, 1 << 62, most - 4096, most - 1, most} {
			l := chars(first, most, glyph)
			for _, c := range []int{least, least + 1, least + 4096, -1 << 62, -4097, -1, 0, 1, 64, 65, 66, 4095, 4096, 1 << 40, 1 << 62, 1<<62 + 1, most - 4100, most - 4096, most - 4095, most - 1, most} {
				sought(t, l, c, modelFind(l, c))
			}
			// The code points that go there, or would, if they wrapped round.
			for _, there := range []int{-1, 0, 1, 2, 4094, 4095, 4096} {
				c := first + there - glyph
				sought(t, l, c, modelFind(l, c))
			}
		}
	}
	// Distances that an int can't tell.
	sought(t, chars(least, most, least), 0, 0)
	sought(t, chars(least, most, least), 1, 1)
	sought(t, chars(least, most, least), 4095, 4095)
	sought(t, chars(least, most, least), 4096, 0)
	sought(t, chars(least, most, least), most, 0)
	sought(t, chars(least, most, 1), least, 1)
	sought(t, chars(least, most, 1), most, 0)
	sought(t, chars(least, most, 2), most, 0) // 2^64 + 1, which would wrap round to 1
	sought(t, chars(least, most, 5000), most, 0)
	sought(t, chars(least, 5, -1<<62), 0, 0)
	sought(t, chars(5, 5, most), 5, 0)
	sought(t, chars(5, 5, least), 5, 0)
	sought(t, chars(4, 5, most), 5, 0)
	sought(t, chars(-1, most, most), most, 0)
}

// P11.3

func TestTablesWrittenOut(t *testing.T) {
	for _, x := range []struct {
		l    []int
		wide bool
		want string
	}{
		{nil, true, "00 00 00 01 00 03 00 0a 00 00 00 0c 00 0c 00 00 00 00 00 10 00 00 00 00 00 00 00 00"},
		{[]int{0x41, 0x43, 5}, true, "00 00 00 01 00 03 00 0a 00 00 00 0c 00 0c 00 00 00 00 00 1c 00 00 00 00 00 00 00 01 00 00 00 41 00 00 00 43 00 00 00 05"},
		{[]int{0x20, 0x20, 1, 0x10fffe, 0x10ffff, 0x102}, true, "00 00 00 01 00 03 00 0a 00 00 00 0c 00 0c 00 00 00 00 00 28 00 00 00 00 00 00 00 02 00 00 00 20 00 00 00 20 00 00 00 01 00 10 ff fe 00 10 ff ff 00 00 01 02"},
		{nil, false, "00 00 00 01 00 03 00 01 00 00 00 0c 00 04 00 18 00 00 00 02 00 02 00 00 00 00 ff ff 00 00 ff ff 00 01 00 00"},
		{[]int{0x41, 0x43, 5}, false, "00 00 00 01 00 03 00 01 00 00 00 0c 00 04 00 20 00 00 00 04 00 04 00 01 00 00 00 43 ff ff 00 00 00 41 ff ff ff c4 00 01 00 00 00 00"},
		{[]int{0x2, 0x3, 0x102, 0xfffd, 0xfffe, 1}, false, "00 00 00 01 00 03 00 01 00 00 00 0c 00 04 00 28 00 00 00 06 00 04 00 01 00 02 00 03 ff fe ff ff 00 00 00 02 ff fd ff ff 01 00 00 04 00 01 00 00 00 00 00 00"},
	} {
		if s := built(t, "written out", chars(x.l...), x.wide); hexes(s) != x.want {
			t.Errorf("Build(%v, %v) is %s; asked: %s", x.l, x.wide, hexes(s), x.want)
		}
	}
}

func TestTheSixBytes(t *testing.T) {
	for m, want := range map[int]string{
		1: two(2, 0, 0), 2: two(4, 1, 0), 3: two(4, 1, 2), 4: two(8, 2, 0), 5: two(8, 2, 2), 7: two(8, 2, 6), 8: two(16, 3, 0), 9: two(16, 3, 2),
		255: two(256, 7, 254), 256: two(512, 8, 0), 257: two(512, 8, 2), 2047: two(2048, 10, 2046), 2048: two(4096, 11, 0), 4095: two(4096, 11, 4094), 4096: two(8192, 12, 0),
	} {
		s := built(t, fmt.Sprint(m, " segments"), apartFrom(70, m-1), false)
		if s[18:20] != two(2*m) || s[20:26] != want {
			t.Errorf("%d segments: %x, %x", m, s[18:20], s[20:26])
		}
	}
	for m := 1; m < 300; m++ {
		built(t, fmt.Sprint(m, " segments"), apartFrom(70, m-1), false)
	}
}

func TestNumbersOfSpansToBuild(t *testing.T) {
	for _, count := range []int{0, 1, 2, 4094, 4095, 4096, 4097, 5000, 70000} {
		l := apartFrom(70, count)
		s := built(t, fmt.Sprint(count, " spans, wide"), l, true)
		if (s != "") != (count <= 4096) || s != "" && len(s) != 28+12*count {
			t.Errorf("%d spans, wide: %d bytes", count, len(s))
		}
		s = built(t, fmt.Sprint(count, " spans, not wide"), l, false)
		if (s != "") != (count <= 4095) || s != "" && len(s) != 12+16+8*(count+1) {
			t.Errorf("%d spans, not wide: %d bytes", count, len(s))
		}
	}
}

func TestLastsToBuild(t *testing.T) {
	for _, x := range []struct {
		l  []int
		ok bool
	}{
		{[]int{65534, 65534, 1}, true},
		{[]int{65000, 65534, 1}, true},
		{[]int{65535, 65535, 1}, false},
		{[]int{65534, 65535, 1}, false},
		{[]int{65000, 65536, 1}, false},
		{[]int{65536, 65536, 1}, false},
		{[]int{65, 66, 1, 65535, 65535, 1}, false},
		{[]int{65, 66, 1, 65534, 65534, 1}, true},
		{[]int{65534, 65534, 1, 65536, 65536, 7}, false},
		{[]int{1114111, 1114111, 1}, false},
		{[]int{65601, 65602, 1}, false}, // 65 and 66, modulo 65536
	} {
		if s := built(t, "not wide", chars(x.l...), false); (s != "") != x.ok {
			t.Errorf("%v, not wide: %x", x.l, s)
		}
		if s := built(t, "wide", chars(x.l...), true); s == "" {
			t.Errorf("%v, wide: nothing", x.l)
		}
	}
}

func TestBuildOfListsThatAreNotGood(t *testing.T) {
	for _, l := range [][]int{
		{6, 5, 1}, {5, 5, 0}, {5, 5, -1}, {5, 5, 4096}, {5, 6, 4095}, {0, 4095, 1}, {-1, 5, 1}, {55296, 55296, 1}, {55295, 57344, 1}, {1114111, 1114112, 1},
		{5, 6, 1, 6, 7, 5}, {5, 6, 1, 7, 7, 3}, {5, 5, 1, 3, 3, 1}, {5, 5, most}, {least, most, 1}, {65, 65, 1, 5, 5, 0},
	} {
		for _, isWide := range []bool{true, false} {
			if s, err := cmap.Build(chars(l...), isWide); s != "" || err != api.ErrCmap {
				t.Errorf("Build(%v, %v) is %x, %v", l, isWide, s, err)
			}
			built(t, "not good", chars(l...), isWide)
		}
	}
	for _, l := range [][]int{{5, 5, 4095}, {5, 4099, 1}, {0, 4094, 1}, {55295, 55295, 1, 57344, 57344, 2}} {
		for _, isWide := range []bool{true, false} {
			if s := built(t, "good", chars(l...), isWide); s == "" {
				t.Errorf("Build(%v, %v) is nothing", l, isWide)
			}
		}
	}
}

// P11.4

func TestReadOfBuild(t *testing.T) {
	done := [2]int{}
	for seed := range 8000 {
		next := numbers(seed)
		l := listBySeed(next)
		if built(t, fmt.Sprint("seed ", seed), l, true) != "" {
			done[0]++
		}
		if built(t, fmt.Sprint("seed ", seed), l, false) != "" {
			done[1]++
		}
	}
	if done[0] < 2000 || done[1] < 1000 {
		t.Errorf("%d and %d of 8000 built: too few", done[0], done[1])
	}
	for seed := range 200 {
		next := numbers(seed)
		var l []api.Chars
		at := next(2000)
		for range 1 + next(400) {
			last := at + next(40)
			l = append(l, api.Chars{First: at, Last: last, Glyph: 1 + next(4000)})
			at = last + 1 + next(30)
		}
		built(t, fmt.Sprint("long, seed ", seed), l, true)
		built(t, fmt.Sprint("long, seed ", seed), l, false)
	}
}

// What is read can be built, if it is for a wide table, and is the same again.
func TestBuildOfRead(t *testing.T) {
	for seed := range 3000 {
		next := numbers(seed)
		s := bySeed(next, 9)
		l, err := cmap.Read(s.table(), 9)
		if err != api.OK {
			continue
		}
		for _, isWide := range []bool{true, false} {
			if built(t, fmt.Sprint("seed ", seed), l, isWide) == "" {
				t.Errorf("seed %d: %v is not built", seed, l)
			}
		}
	}
}

func TestFindOfRead(t *testing.T) {
	found(t, "groups", wide(0, 9, 0, 32, 126, 1, 127, 130, 96, 55290, 57350, 10, 65530, 65540, 3, 1114100, 1114111, 4084), 4096, true)
	found(t, "segments", ended(0, 9, 0, 0, 32, 126, -31, 0, 127, 130, 3, 8, 55290, 57350, -55290, 0, 65530, 65534, 7, 0).and(0, 5, 6, 0, 7).table(), 4096, true)
	found(t, "nothing", wide(), 1, true)
	found(t, "nothing, narrow", ended().table(), 1, true)
	found(t, "the end alone", segmented(65535, 65535, 4, 0).table(), 9, true)
	for _, isWide := range []bool{true, false} {
		l := chars(32, 126, 1, 160, 255, 96, 256, 256, 5, 65000, 65534, 1000)
		found(t, "a table that was built", built(t, "some", l, isWide), 4096, true)
	}
	found(t, "many groups", wide(flat(apartFrom(70000, 4096))...), 4096, false)
	found(t, "many segments", narrowly(apartFrom(100, 4096)).table(), 4096, false)
}

// What is handed in is not changed, and nothing told is shared.

func TestNothingHandedInIsChanged(t *testing.T) {
	for _, l := range [][]api.Chars{nil, chars(65, 66, 1), chars(65, 66, 1, 70, 71, 9), chars(70, 71, 9, 65, 66, 1), chars(65, 66, 1, 67, 67, 3), apartFrom(70, 4095), apartFrom(70, 4096), apartFrom(70, 4097)} {
		roomy := slices.Concat(l, chars(80, 81, 7, 90, 90, 8))
		was := slices.Clone(roomy)
		given := roomy[:len(l)]
		cmap.Good(given, 4096)
		cmap.Find(given, 65)
		cmap.Find(given, most)
		cmap.Build(given, true)
		cmap.Build(given, false)
		if !slices.Equal(roomy, was) {
			t.Errorf("%s is changed to %s", tell(was), tell(roomy))
		}
		sought(t, given, 80, modelFind(l, 80))
	}
	roomy := chars(65, 66, 1, 5, 5, 5)
	good(t, "with spare room", roomy[:1], 4096, true)
	built(t, "with spare room", roomy[:1], true)
	built(t, "with spare room", roomy[:1], false)
	sought(t, roomy[:1], 5, 0)
	for _, s := range []string{wide(65, 66, 1), ended(65, 66, 1-65, 0).table(), "wrong"} {
		given := strings.Clone(s)
		cmap.Read(given, 4096)
		if given != s {
			t.Errorf("%x is changed to %x", s, given)
		}
	}
}

// stretch is the memory of a text, or of a list with its spare room. It holds a
// pointer, not a number, so that this memory is not freed and given to another
// answer while stretches are gathered.
type stretch struct {
	what string
	at   unsafe.Pointer
	size uintptr
}

func (a stretch) from() uintptr { return uintptr(a.at) }
func (a stretch) to() uintptr   { return uintptr(a.at) + a.size }

func ofText(what, s string) stretch {
	return stretch{what, unsafe.Pointer(unsafe.StringData(s)), uintptr(len(s))}
}

func ofList(what string, l []api.Chars) stretch {
	return stretch{what, unsafe.Pointer(unsafe.SliceData(l)), uintptr(cap(l)) * unsafe.Sizeof(api.Chars{})}
}

func apart(t *testing.T, l []stretch) {
	t.Helper()
	for i, a := range l {
		for _, b := range l[:i] {
			if max(a.from(), b.from()) < min(a.to(), b.to()) {
				t.Errorf("%s and %s share memory", a.what, b.what)
			}
		}
	}
}

func TestAnswersAreNewMemory(t *testing.T) {
	for _, given := range [][]api.Chars{nil, chars(65, 66, 1), chars(65, 66, 1, 70, 71, 9, 80, 80, 2), apartFrom(70, 4095)} {
		was := slices.Clone(given)
		all := []stretch{ofList("what is handed in", given)}
		for _, isWide := range []bool{true, false} {
			s, _ := cmap.Build(given, isWide)
			next, _ := cmap.Build(given, isWide)
			first, _ := cmap.Read(s, 4096)
			second, _ := cmap.Read(s, 4096)
			all = append(all, ofText("a table", s), ofText("the next", next), ofList("a list", first), ofList("the next list", second))
			clear(first[:cap(first)])
			if !slices.Equal(second, was) {
				t.Errorf("a list that was changed changed another: %s", tell(second))
			}
			rightList(t, "behind changes of an answer", s, 4096, was)
		}
		apart(t, all)
		s, _ := cmap.Build(given, true)
		clear(given)
		rightList(t, "behind changes of what it was made of", s, 4096, was)
	}
}

// With an error nothing else is told, however far the reader came.
func TestNothingBesideAnError(t *testing.T) {
	for _, s := range []string{
		wide(65, 66, 1, 70, 71, 9), wide(65, 66, 1, 66, 66, 1), wide(65, 66, 1)[:39], wide(65, 66, 1, 1114112, 1114112, 1),
		ended(65, 66, 1-65, 0, 70, 71, 9-70, 0).table(), segmented(65, 66, 1-65, 0).table(), ended(65, 66, 1-65, 0, 66, 66, 1-66, 0).table(), ended(65, 66, 1-65, 0, 70, 70, 0, 3).table(), narrowly(apartFrom(70, 4097)).table(),
	} {
		if l, err := cmap.Read(s, 9); l != nil || err != api.ErrCmap {
			t.Errorf("%s: %s, %v", tell(s), tell(l), err)
		}
		if l, err := cmap.Read(s, 0); l != nil || err != api.ErrArg {
			t.Errorf("%s: %s, %v", tell(s), tell(l), err)
		}
	}
	if l, err := cmap.Read(narrowly(apartFrom(70, 4097)).table(), 4096); l != nil || err != api.ErrCmap {
		t.Errorf("too many spans: %s, %v", tell(l), err)
	}
	if s, err := cmap.Build(apartFrom(70, 4096), false); s != "" || err != api.ErrCmap {
		t.Errorf("%s, %v", tell(s), err)
	}
}

func TestAnswersHangOnTheArgumentsAlone(t *testing.T) {
	for range 3 {
		right(t, "groups", wide(65, 66, 1), 9, 65, 66, 1)
		right(t, "segments", ended(65, 66, 1-65, 0).table(), 9, 65, 66, 1)
		built(t, "some", chars(65, 66, 1), true)
		built(t, "some", chars(65, 66, 1), false)
		sought(t, chars(65, 66, 1), 66, 2)
		good(t, "some", chars(65, 66, 1), 3, true)
		cmap.Read(wide(flat(apartFrom(70000, 4096))...), 4096)
		cmap.Read("wrong", 4096)
		cmap.Read(wide(65, 66, 1), 0)
		cmap.Build(apartFrom(70, 4096), false)
		cmap.Find(chars(least, most, least), 1)
		cmap.Good(make([]api.Chars, 5000), 4096)
	}
}
