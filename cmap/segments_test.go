package cmap_test

import (
	"fmt"
	"slices"
	"strings"
	"testing"

	"colophon/api"
	"colophon/cmap"
)

// P11.1: format 4.

func TestNumbersOfSegments(t *testing.T) {
	none := segmented()
	none.search = "\x00\x00\x00\x00\x00\x00"
	wrong(t, "none", none.table(), 9)
	wrong(t, "none, and bytes", none.table()+strings.Repeat("\xff", 40), 9)
	none.length = 56
	wrong(t, "none, and bytes within the length", none.table()+strings.Repeat("\xff", 40), 9)
	right(t, "one, the end", ended().table(), 9)
	right(t, "one, that holds more than the end", segmented(65533, 65535, 5, 0).table(), 9, 65533, 65534, 2)
	right(t, "two", ended(65, 66, 1-65, 0).table(), 9, 65, 66, 1)
	right(t, "four", ended(32, 32, 1-32, 0, 65, 66, 2-65, 0, 70, 70, 1-70, 0).table(), 9, 32, 32, 1, 65, 66, 2, 70, 70, 1)
	for _, m := range []int{2, 3, 255, 256, 257, 4096, 4097} {
		l := apartFrom(100, m-1)
		rightList(t, fmt.Sprint(m, " segments"), narrowly(l).table(), 4096, l)
	}
	// As many as a length can tell, all to 0 but the first.
	var list []int
	for i := range 8188 {
		list = append(list, 2*i, 2*i, -2*i, 0)
	}
	list[2] = 1
	full := ended(list...)
	if full.length != 65528 {
		t.Fatal(full.length)
	}
	right(t, "as many as can be", full.table(), 9, 0, 0, 1)
	full.lasts, full.firsts, full.ds, full.os = slices.Insert(full.lasts, 8188, 40000), slices.Insert(full.firsts, 8188, 40000), slices.Insert(full.ds, 8188, -40000), slices.Insert(full.os, 8188, 0)
	full.twice, full.length = full.twice+2, 65535
	wrong(t, "one more", full.table(), 9)
}

// narrowly is format 4 of a list.
func narrowly(l []api.Chars) segments {
	var list []int
	for _, x := range l {
		list = append(list, x.First, x.Last, x.Glyph-x.First, 0)
	}
	return ended(list...)
}

func TestNumbersInThePlaceOfTwiceTheSegments(t *testing.T) {
	for _, m := range []int{1, 2, 3, 4} {
		l := apartFrom(65, m-1)
		for twice := range 24 {
			s := narrowly(l)
			s.twice = twice
			text := s.table() + strings.Repeat("\x00", 100)
			if twice == 2*m {
				rightList(t, "twice the segments", text, 9, l)
			} else {
				wrong(t, fmt.Sprint(twice, " in the place of ", 2*m), text, 9)
			}
			s.length = 16 + 8*m + 90
			if text := s.table() + strings.Repeat("\x00", 100); twice%2 == 1 {
				wrong(t, "an odd one, with room", text, 9)
			} else {
				alike(t, "with room", text, 9)
			}
		}
		for _, twice := range []int{32767, 32768, 65534, 65535} {
			s := narrowly(l)
			s.twice = twice
			wrong(t, "a great number", s.table()+strings.Repeat("\xff", 1000), 9)
		}
	}
	// An odd number, of which the half is right.
	s := ended(65, 65, 1-65, 0).and(0, 0, 0, 0)
	s.twice = 5
	wrong(t, "2 m + 1", s.table(), 9)
}

func TestLengthsOfSegments(t *testing.T) {
	for _, m := range []int{1, 2, 3, 10} {
		l := apartFrom(65, m-1)
		s := narrowly(l)
		text := func(length, more int) string {
			x := s
			x.length = length
			return x.table() + strings.Repeat("\xaa", more)
		}
		just := 16 + 8*m
		for _, length := range []int{0, 1, 8, 15, 16, just - 8, just - 2, just - 1} {
			wrong(t, "too short", text(length, 0), 20)
			wrong(t, "too short, and bytes behind", text(length, 100), 20)
		}
		rightList(t, "just as long", text(just, 0), 20, l)
		rightList(t, "just as long, and bytes behind", text(just, 100), 20, l)
		for _, more := range []int{1, 2, 3, 7, 100, 1000} {
			rightList(t, "longer than need be", text(just+more, more), 20, l)
			rightList(t, "longer than need be, and bytes behind", text(just+more, more+5), 20, l)
			wrong(t, "beyond the table", text(just+more, more-1), 20)
			wrong(t, "beyond the table", text(just+more, 0), 20)
		}
		wrong(t, "far beyond the table", text(65535, 100), 20)
		rightList(t, "as long as can be", text(65535, 65535-just), 20, l)
		wrong(t, "as long as can be, and a byte is missing", text(65535, 65534-just), 20)
	}
}

func TestBytesOfNoName(t *testing.T) {
	for _, x := range []int{0, 1, 65, 0x8000, 0xffff} {
		s := ended(65, 66, 1-65, 0)
		s.free = two(x)
		right(t, "the two behind the length", s.table(), 9, 65, 66, 1)
		s.search = two(x, x+1, x+2)
		right(t, "the six", s.table(), 9, 65, 66, 1)
		s.gap = two(x)
		right(t, "the two between", s.table(), 9, 65, 66, 1)
	}
}

func TestFirstsAndLasts(t *testing.T) {
	right(t, "rising", ended(65, 65, 1-65, 0, 67, 68, 3-67, 0).table(), 9, 65, 65, 1, 67, 68, 3)
	right(t, "side by side", ended(65, 66, 1-65, 0, 67, 68, 4-67, 0).table(), 9, 65, 66, 1, 67, 68, 4)
	right(t, "side by side, and they go on", ended(65, 66, 1-65, 0, 67, 68, 3-67, 0).table(), 9, 65, 68, 1)
	wrong(t, "a first that is the last ahead", ended(65, 66, 1-65, 0, 66, 68, 1-66, 0).table(), 9)
	wrong(t, "a first below the last ahead", ended(65, 66, 1-65, 0, 65, 68, 1-65, 0).table(), 9)
	wrong(t, "the same once more", ended(65, 66, 1-65, 0, 65, 66, 1-65, 0).table(), 9)
	wrong(t, "falling", ended(67, 68, 1-67, 0, 65, 66, 1-65, 0).table(), 9)
	wrong(t, "a last below its first", ended(66, 65, 1-65, 0).table(), 9)
	wrong(t, "a last far below its first", ended(65000, 65, 1-65, 0).table(), 9)
	right(t, "a last that is its first", ended(66, 66, 1-66, 0).table(), 9, 66, 66, 1)
	wrong(t, "the third falls", ended(65, 65, 1-65, 0, 70, 70, 1-70, 0, 69, 69, 1-69, 0).table(), 9)
	right(t, "from 0 on", ended(0, 2, 1, 0).table(), 9, 0, 2, 1)
	right(t, "up to 65534", ended(65533, 65534, 4, 0).table(), 9, 65533, 65534, 1)
	wrong(t, "the end twice", ended(65535, 65535, 1, 0).table(), 9)
	wrong(t, "the end falls", segmented(65, 66, 1-65, 0, 65535, 65534, 1, 0).table(), 9)
	wrong(t, "the end begins at the last ahead", segmented(65, 66, 1-65, 0, 66, 65535, 1, 1).table(), 4096)
	for _, last := range []int{0, 66, 67, 255, 65533, 65534} {
		wrong(t, "a final last that is not 65535", segmented(65, 66, 1-65, 0, last, last, -last, 0).table(), 4096)
		wrong(t, "one alone that is not up to 65535", segmented(last, last, -last, 0).table(), 4096)
	}
	wrong(t, "65535, and then one more", segmented(65, 65535, 1-65, 0, 65535, 65535, 1, 0).table(), 4096)
	wrong(t, "65535, and then a small one", segmented(65535, 65535, 1, 0, 65, 66, 1-65, 0).table(), 4096)
	right(t, "it is asked of those that are sent nowhere, too", ended(65, 65, -65, 0, 66, 66, -66, 0).table(), 1)
	wrong(t, "they fall", ended(66, 66, -66, 0, 65, 65, -65, 0).table(), 1)
	wrong(t, "numbers that are no code points fall", ended(56001, 56001, 0, 0, 56000, 56000, 0, 0).table(), 9)
	wrong(t, "first above last of numbers that are no code points", ended(56001, 56000, 0, 0).table(), 9)
}

func TestGlyphsBySums(t *testing.T) {
	for _, n := range []int{1, 2, 9, 256, 4095, 4096} {
		for _, c := range []int{0, 1, 65, 255, 256, 32767, 32768, 55295, 57344, 65534} {
			toLast, beyond := ended(c, c, n-1-c, 0).table(), ended(c, c, n-c, 0).table()
			if n > 1 {
				right(t, "to the last glyph", toLast, n, c, c, n-1)
			} else {
				right(t, "to the only one", toLast, n)
			}
			wrong(t, "to one more", beyond, n)
			wrong(t, "to 65535", ended(c, c, 65535-c, 0).table(), n)
			wrong(t, "to 32768", ended(c, c, 32768-c, 0).table(), n)
			right(t, "to 0", ended(c, c, -c, 0).table(), n)
			if n > 1 {
				right(t, "to 1", ended(c, c, 1-c, 0).table(), n, c, c, 1)
			}
		}
	}
	right(t, "d is 0", ended(1, 8, 0, 0).table(), 9, 1, 8, 1)
	right(t, "d is 0, and 0 goes to 0", ended(0, 8, 0, 0).table(), 9, 1, 8, 1)
	wrong(t, "d is 0, and one goes too far", ended(0, 9, 0, 0).table(), 9)
	right(t, "d wraps round", ended(65, 70, 65536-64, 0).table(), 9, 65, 70, 1)
	right(t, "d that wraps round just as it must", ended(65530, 65534, 7, 0).table(), 9, 65530, 65534, 1)
	wrong(t, "a wrap within a segment", ended(65, 70, 65536-66, 0).table(), 4096)
	right(t, "the first goes to 0", ended(65, 70, 65536-65, 0).table(), 9, 66, 70, 1)
	right(t, "one between goes to 0", ended(65, 65, 1-65, 0, 66, 66, -66, 0, 67, 67, 2-67, 0).table(), 9, 65, 65, 1, 67, 67, 2)
	right(t, "those that go on", ended(65, 65, 1-65, 0, 66, 66, 2-66, 0).table(), 9, 65, 66, 1)
	wrong(t, "more than there are glyphs", ended(65, 74, -65, 0).table(), 9)
	wrong(t, "the first of two goes too far", ended(65, 65, 9-65, 0, 70, 70, 1-70, 0).table(), 9)
	wrong(t, "the second of two goes too far", ended(65, 65, 1-65, 0, 70, 70, 9-70, 0).table(), 9)
}

// Of a table with one segment ahead of the end o stands at 28 and what is
// behind the lists at 32: o is 4 for the first number there.
func TestGlyphsByPlaces(t *testing.T) {
	right(t, "the first numbers", ended(65, 67, 0, 4).and(3, 1, 2).table(), 9, 65, 65, 3, 66, 67, 1)
	right(t, "later ones", ended(65, 66, 0, 8).and(9999, 9999, 7, 8).table(), 9, 65, 66, 7)
	right(t, "with d", ended(65, 67, 5, 4).and(3, 1, 2).table(), 9, 65, 65, 8, 66, 67, 6)
	right(t, "with d that wraps round", ended(65, 67, -1000, 4).and(1003, 1001, 1002).table(), 9, 65, 65, 3, 66, 67, 1)
	right(t, "g and d wrap round", ended(65, 66, 65535, 4).and(2, 3).table(), 9, 65, 66, 1)
	right(t, "g is 0: d is not added", ended(65, 67, 5, 4).and(3, 0, 2).table(), 9, 65, 65, 8, 67, 67, 7)
	right(t, "g is 0, and d would be too great", ended(65, 65, 5000, 4).and(0).table(), 9)
	right(t, "g is 0, and those beside would go on", ended(65, 67, 0, 4).and(3, 0, 5).table(), 9, 65, 65, 3, 67, 67, 5)
	right(t, "g + d is 0", ended(65, 67, -3, 4).and(4, 3, 5).table(), 9, 65, 65, 1, 67, 67, 2)
	right(t, "g + d is n - 1", ended(65, 65, 3, 4).and(5).table(), 9, 65, 65, 8)
	wrong(t, "g + d is n", ended(65, 65, 3, 4).and(6).table(), 9)
	right(t, "g is n - 1", ended(65, 65, 0, 4).and(8).table(), 9, 65, 65, 8)
	wrong(t, "g is n", ended(65, 65, 0, 4).and(9).table(), 9)
	wrong(t, "the last g is n", ended(65, 67, 0, 4).and(1, 2, 9).table(), 9)
	wrong(t, "g is great", ended(65, 65, 0, 4).and(65535).table(), 4096)
	right(t, "g is great, and d brings it back", ended(65, 65, 2, 4).and(65535).table(), 9, 65, 65, 1)
	right(t, "both bytes of g count", ended(65, 65, 0, 4).and(0x0102).table(), 4096, 65, 65, 0x0102)
	right(t, "two segments, one list", ended(65, 66, 0, 6, 70, 71, 0, 4).and(2, 3).table(), 9, 65, 66, 2, 70, 71, 2)
	right(t, "of two segments one has none", ended(65, 66, 0, 6, 70, 71, 1-70, 0).and(2, 3).table(), 9, 65, 66, 2, 70, 71, 1)
	// o of 2 is the o behind it, the end's, which is 0.
	right(t, "a number within the lists", ended(65, 65, 7, 2).table(), 9)
	right(t, "a number within the lists, and one behind them", ended(65, 66, 1, 2).and(7).table(), 9, 66, 66, 8)
	s := ended(65, 65, 1, 2)
	s.os[1] = 5
	right(t, "the end's o, which is 5", s.table(), 9, 65, 65, 6)
	wrong(t, "o of 4 and nothing there", ended(65, 65, 0, 4).table(), 9)
}

func TestPlacesBeyondTheLength(t *testing.T) {
	for _, count := range []int{1, 2, 3, 50} {
		list := slices.Repeat([]int{3}, count)
		want := []int{}
		for i := range count {
			want = append(want, 65+i, 65+i, 3)
		}
		s := ended(65, 64+count, 0, 4).and(list...)
		right(t, "just within the length", s.table(), 9, want...)
		for less := 1; less <= 2*count; less++ {
			x := s
			x.length -= less
			wrong(t, "within the table, but not within the length", x.table(), 9)
			wrong(t, "within the table, but not within the length", x.table()+two(3, 3, 3), 9)
		}
		for more := 1; more < 5; more++ {
			x := s
			x.behind += "\x09\x09\x09\x09\x09"[:more]
			x.length += more
			right(t, "a length that is longer, and odd ones too", x.table(), 9, want...)
		}
		x := ended(65, 64+count, 0, 6).and(list...)
		wrong(t, "the last one is beyond", x.table(), 9)
		wrong(t, "the last one is beyond, but within the table", x.table()+two(3), 9)
		x.length++
		wrong(t, "half of the last one is beyond", x.table()+two(3), 9)
		x.length++
		right(t, "it is not", x.table()+two(3), 9, want...)
	}
	for _, o := range []int{6, 100, 32766, 32768, 65532, 65534} {
		wrong(t, "far beyond", ended(65, 65, 0, o).and(3).table(), 9)
		right(t, "far beyond, but of the end", segmented(65, 65, 1-65, 0, 65535, 65535, 1, o).table(), 9, 65, 65, 1)
	}
	long := ended(65, 65, 0, 65502).and(append(make([]int, 32749), 4)...)
	if long.length != 65532 {
		t.Fatal(long.length)
	}
	right(t, "far within", long.table(), 9, 65, 65, 4)
	long.os[0] = 65504
	wrong(t, "one beyond", long.table(), 9)
}

func TestOddPlaces(t *testing.T) {
	for _, o := range []int{1, 3, 5, 7, 9, 255, 65535} {
		list := slices.Repeat([]int{0x0101}, 20)
		wrong(t, "odd", ended(65, 65, 0, o).and(list...).table(), 4096)
		wrong(t, "odd, of the second", ended(65, 65, 1-65, 0, 70, 70, 0, o).and(list...).table(), 4096)
		wrong(t, "odd, where all are 0", ended(65, 65, 0, o).and(make([]int, 40000/2)...).table(), 4096)
		right(t, "odd, of the end", segmented(65, 65, 1-65, 0, 65535, 65535, 1, o).and(list...).table(), 4096, 65, 65, 1)
		right(t, "odd, of numbers that are no code points", ended(56000, 56001, 1, o).and(list...).table(), 4096)
		wrong(t, "odd, of such and one more", ended(55295, 56001, 1, o).and(list...).table(), 4096)
		wrong(t, "odd, of one more behind them", ended(57343, 57344, 1, o).and(list...).table(), 4096)
	}
}

// Of 55296 to 57343 and of 65535 nothing is asked: not where they go, not
// whether there is such a place, not that o is even.
func TestWhatNothingIsAskedOf(t *testing.T) {
	right(t, "just they, to great glyphs", ended(55296, 57343, 0, 0).table(), 9)
	right(t, "just they, with a place beyond all", ended(55296, 57343, 0, 60000).table(), 9)
	right(t, "over all of them", ended(55295, 57344, 1-55295, 0).table(), 4096, 55295, 55295, 1, 57344, 57344, 2050)
	wrong(t, "one behind them goes too far", ended(55295, 57344, 1-55295, 0).table(), 2050)
	right(t, "they go too far alone", ended(55294, 57343, 1-55294, 0).table(), 3, 55294, 55295, 1)
	wrong(t, "one ahead of them goes too far", ended(55294, 57343, 1-55294, 0).table(), 2)
	right(t, "from the last on", ended(57343, 57345, 1-57344, 0).table(), 3, 57344, 57345, 1)
	right(t, "they wrap round, and one ahead does not", ended(55295, 55300, 8-55295, 0).table(), 9, 55295, 55295, 8)
	right(t, "they would be beyond the length", ended(55294, 57343, 0, 4).and(3, 4).table(), 9, 55294, 55295, 3)
	wrong(t, "one behind them would be beyond the length", ended(55294, 57344, 0, 4).and(3, 4).table(), 9)
	list := make([]int, 2051)
	list[0], list[1], list[2], list[2049], list[2050] = 3, 4, 9999, 8888, 5
	right(t, "by places, over all of them", ended(55294, 57344, 0, 4).and(list...).table(), 9, 55294, 55295, 3, 57344, 57344, 5)
	for _, d := range []int{0, 1, 2, 100, 4096, 32768, 65535} {
		for _, o := range []int{0, 1, 2, 3, 4, 100, 65534, 65535} {
			right(t, "the end", segmented(65, 65, 1-65, 0, 65535, 65535, d, o).table(), 2, 65, 65, 1)
			right(t, "the end alone", segmented(65535, 65535, d, o).table(), 1)
		}
	}
	right(t, "65535 goes too far, and is not asked", segmented(65534, 65535, 10, 0).table(), 9, 65534, 65534, 8)
	wrong(t, "65534 goes too far", segmented(65534, 65535, 11, 0).table(), 9)
	right(t, "65535 would be beyond the length", segmented(65534, 65535, 0, 2).and(5).table(), 9, 65534, 65534, 5)
	wrong(t, "65534 would be beyond the length", segmented(65533, 65535, 0, 2).and(5).table(), 9)
	right(t, "65535 is shown by none", segmented(65535, 65535, 4, 0).table(), 9)
	right(t, "65535 would go on", segmented(65533, 65535, 5, 0).table(), 9, 65533, 65534, 2)
}

func TestNarrowListsThatAreTooLong(t *testing.T) {
	many := func(count int) string {
		list := make([]int, 2*count)
		for i := range list {
			list[i] = i % 2
		}
		return ended(1, 2*count, 0, 4).and(list...).table()
	}
	for _, count := range []int{1, 4095, 4096} {
		var want []int
		for i := range count {
			want = append(want, 2+2*i, 2+2*i, 1)
		}
		right(t, fmt.Sprint(count, " spans of one segment"), many(count), 2, want...)
	}
	wrong(t, "one more", many(4097), 2)
	wrong(t, "twice as many", many(8192), 2)
	l := apartFrom(100, 4096)
	rightList(t, "4096 spans, as many segments", narrowly(l).table(), 4096, l)
	wrong(t, "4097 spans, as many segments", narrowly(apartFrom(100, 4097)).table(), 4096)
	same := ended(1, 4097, 0, 4).and(slices.Repeat([]int{1}, 4097)...)
	wrong(t, "all to one glyph", same.table(), 2)
	same.firsts[0] = 2
	var want []int
	for c := 2; c <= 4097; c++ {
		want = append(want, c, c, 1)
	}
	right(t, "all but one", same.table(), 2, want...)
	// A fault behind a list that is too long, and the other way round.
	wrong(t, "too long, and a fault", ended(1, 8194, 0, 4).and(slices.Repeat([]int{1, 0}, 4097)...).table()[:8000], 2)
	rising := ended(1, 5000, 0, 4).and(upTo(1, 4095)...)
	wrong(t, "beyond the length", rising.table(), 4096)
}

func TestManySegments(t *testing.T) {
	many(t, func(next func(int) int) (string, int) {
		n := []int{2, 9, 20, 4096}[next(4)]
		s := bySeed(next, n)
		if next(10) == 0 {
			s.length += next(5) - 2
		}
		if next(20) == 0 {
			s.twice += next(3) - 1
		}
		return s.table(), n
	})
}

// bySeed is some segments of few code points; o leads to numbers behind the
// lists, of which there are nearly always enough.
func bySeed(next func(int) int, n int) segments {
	at := []int{0, 65, 55285, 57335, 65500}[next(5)]
	count := next(5)
	var list []int
	for i := range count {
		first := at + next(3)
		last := first + next(4)
		d, o := 1+next(min(n, 12)-1)-first, 0
		if next(2) == 0 {
			d, o = next(3), 2*(count+1-i)+2*next(6)
		}
		list = append(list, first, last, d, o+next(30)/29)
		at = last + 1 - next(20)/19
	}
	var behind []int
	for range 9 + next(3) {
		behind = append(behind, next(min(n, 8)))
	}
	if next(30) == 0 {
		return segmented(list...).and(behind...)
	}
	return ended(list...).and(behind...)
}

// Both formats tell the same, where both can.
func TestFormatsTellTheSame(t *testing.T) {
	for seed := range 500 {
		next := numbers(seed)
		var list, fours []int
		at := next(60000)
		for range 1 + next(6) {
			first := at + next(3)
			last := first + next(50)
			glyph := next(4000)
			list = append(list, first, last, glyph)
			fours = append(fours, first, last, glyph-first, 0)
			at = last + 1
		}
		a, err := cmap.Read(wide(list...), 4096)
		b, again := cmap.Read(ended(fours...).table(), 4096)
		if !slices.Equal(a, b) || err != api.OK || again != api.OK {
			t.Fatalf("%v: %v, %v; %v, %v", list, a, err, b, again)
		}
	}
}
