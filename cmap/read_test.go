package cmap_test

import (
	"fmt"
	"slices"
	"strings"
	"testing"

	"colophon/api"
	"colophon/cmap"
)

// P11.1: the table and its rows.

func TestNumbersOfGlyphs(t *testing.T) {
	two, one := wide(65, 66, 0), wide(65, 65, 0)
	narrowOne := ended(65, 65, -65, 0).table()
	for _, n := range []int{least, -1 << 40, -4096, -1, 0, 4097, 4098, 65536, 1 << 32, 1<<32 + 1, most} {
		for _, s := range []string{two, one, narrowOne, wide(), "", "wrong"} {
			refused(t, "no number of glyphs", s, n, api.ErrArg)
		}
	}
	right(t, "one glyph, to which all go", one, 1)
	right(t, "one glyph, to which all go, narrow", narrowOne, 1)
	right(t, "one glyph, and none goes anywhere", wide(), 1)
	right(t, "one glyph, narrow, and none goes anywhere", ended().table(), 1)
	wrong(t, "one glyph, and the second is named", two, 1)
	right(t, "two", two, 2, 66, 66, 1)
	wrong(t, "one glyph, and the second is named, narrow", ended(65, 65, 1-65, 0).table(), 1)
	right(t, "all", wide(10, 4105, 0), 4096, 11, 4105, 1)
	wrong(t, "one less", wide(10, 4105, 0), 4095)
	right(t, "all, narrow", ended(10, 4105, -10, 0).table(), 4096, 11, 4105, 1)
	wrong(t, "one less, narrow", ended(10, 4105, -10, 0).table(), 4095)
	wrong(t, "a wrong one", "", 1)
	wrong(t, "a wrong one", "", 4096)
}

func TestTablesOfNoUse(t *testing.T) {
	wrong(t, "no rows", two(0, 0), 9)
	wrong(t, "no rows, and a map", two(0, 0)+grouped(65, 65, 1).text(), 9)
	wrong(t, "no rows, but such as would be there", two(0, 0)+wide(65, 65, 1)[4:], 9)
	body := grouped(65, 65, 1).text()
	for _, version := range []string{"\x00\x01", "\x01\x00", "\xff\xff", "\x80\x00"} {
		wrong(t, "another version", version+wide(65, 65, 1)[2:], 9)
		wrong(t, "another version, narrow", version+ended(65, 65, 1-65, 0).table()[2:], 9)
	}
	if hexes(table(row{3, 10, body})[:12]) != "00 00 00 01 00 03 00 0a 00 00 00 0c" {
		t.Error("this test's own tables are not right")
	}
}

var (
	wideKinds   = [][2]int{{3, 10}, {0, 4}}
	narrowKinds = [][2]int{{3, 1}, {0, 0}, {0, 1}, {0, 2}, {0, 3}}
)

// Each platform from 0 to 6 with each encoding from 0 to 12, and some great
// ones: just two are wide, and five narrow.
func TestKindsOfRows(t *testing.T) {
	groups, segments := grouped(65, 65, 1).text(), ended(65, 65, 2-65, 0).text()
	few := append(upTo(0, 6), 255, 256, 259, 768, 32767, 32768, 65535)
	for _, platform := range few {
		for _, encoding := range append(upTo(7, 12), append(few, 266, 2560)...) {
			kind := [2]int{platform, encoding}
			what := fmt.Sprint(kind)
			isWide, isNarrow := slices.Contains(wideKinds, kind), slices.Contains(narrowKinds, kind)
			if isWide {
				right(t, what, table(row{platform, encoding, groups}), 9, 65, 65, 1)
			} else {
				wrong(t, what+", format 12", table(row{platform, encoding, groups}), 9)
			}
			if isNarrow {
				right(t, what, table(row{platform, encoding, segments}), 9, 65, 65, 2)
			} else {
				wrong(t, what+", format 4", table(row{platform, encoding, segments}), 9)
			}
			if !isWide && !isNarrow {
				none := row{platform, encoding, "of no weight"}
				right(t, what+" ahead of a wide one", table(none, row{3, 10, groups}), 9, 65, 65, 1)
				right(t, what+" behind a narrow one", table(row{3, 1, segments}, none), 9, 65, 65, 2)
				wrong(t, what+", twice", table(none, none), 9)
			}
		}
	}
}

// The first wide row counts, wherever it stands, else the first narrow one; and
// it alone: what stands at the other places may be anything.
func TestWhichRowCounts(t *testing.T) {
	w := func(i, glyph int) row {
		return row{wideKinds[i][0], wideKinds[i][1], grouped(65, 65, glyph).text()}
	}
	n := func(i, glyph int) row {
		return row{narrowKinds[i][0], narrowKinds[i][1], ended(65, 65, glyph-65, 0).text()}
	}
	none := row{3, 0, "of no weight"}
	for i := range narrowKinds {
		for j := range narrowKinds {
			right(t, "two narrow ones", table(n(i, 3), n(j, 4)), 9, 65, 65, 3)
			right(t, "three narrow ones", table(none, n(j, 5), n(i, 3), n(j, 4)), 9, 65, 65, 5)
			for k := range wideKinds {
				right(t, "a wide one ahead", table(w(k, 1), n(i, 3), n(j, 4)), 9, 65, 65, 1)
				right(t, "a wide one between", table(n(i, 3), w(k, 1), n(j, 4)), 9, 65, 65, 1)
				right(t, "a wide one behind", table(n(i, 3), n(j, 4), none, w(k, 1)), 9, 65, 65, 1)
				right(t, "two wide ones", table(n(i, 3), w(k, 2), n(j, 4), w(1-k, 1)), 9, 65, 65, 2)
				right(t, "two of one kind", table(w(k, 2), w(k, 1), n(j, 4)), 9, 65, 65, 2)
			}
		}
	}
	for k := range wideKinds {
		bad := w(k, 1)
		bad.body = ended(65, 65, 1-65, 0).text()
		wrong(t, "the first wide one is not right", table(n(0, 3), bad, w(1-k, 1)), 9)
		wrong(t, "the wide one is not right, the narrow one is", table(n(0, 3), bad), 9)
		right(t, "the second wide one is not right", table(n(0, 3), w(1-k, 2), bad), 9, 65, 65, 2)
	}
	for i := range narrowKinds {
		bad := n(i, 1)
		bad.body = grouped(65, 65, 1).text()
		wrong(t, "the first narrow one is not right", table(bad, n(0, 3)), 9)
		right(t, "the second narrow one is not right", table(n(0, 3), bad), 9, 65, 65, 3)
		right(t, "a narrow one is not right, behind a wide one", table(w(0, 7), bad), 9, 65, 65, 7)
		right(t, "a narrow one is not right, ahead of a wide one", table(bad, w(0, 7)), 9, 65, 65, 7)
	}
	many := slices.Repeat([]row{none}, 5000)
	right(t, "the last of many rows", table(append(slices.Clone(many), n(2, 6))...), 9, 65, 65, 6)
	right(t, "the first of many rows", table(append([]row{w(0, 6)}, many...)...), 9, 65, 65, 6)
	wrong(t, "many rows of no use", table(many...), 9)
}

func TestOtherFormatsAtThePlace(t *testing.T) {
	for f := range 70 {
		g, s := grouped(65, 65, 1), ended(65, 65, 1-65, 0)
		g.format, s.format = two(f, 0), two(f)
		if f == 12 {
			right(t, "format 12", g.table(), 9, 65, 65, 1)
		} else {
			wrong(t, fmt.Sprint("format ", f, " of a wide row"), g.table(), 9)
		}
		if f == 4 {
			right(t, "format 4", s.table(), 9, 65, 65, 1)
		} else {
			wrong(t, fmt.Sprint("format ", f, " of a narrow row"), s.table(), 9)
		}
	}
	for _, f := range []string{"\x01\x0c\x00\x00", "\x00\x0c\x00\x01", "\x00\x0c\x01\x00", "\x00\x0c\xff\xff", "\x0c\x00\x00\x00", "\x00\x00\x00\x0c"} {
		g := grouped(65, 65, 1)
		g.format = f
		wrong(t, "nearly format 12", g.table(), 9)
	}
	for _, f := range []string{"\x01\x04", "\x04\x00", "\x80\x04", "\x04\x04"} {
		s := ended(65, 65, 1-65, 0)
		s.format = f
		wrong(t, "nearly format 4", s.table(), 9)
	}
	for _, kind := range append(slices.Clone(wideKinds), narrowKinds...) {
		wrong(t, "nothing at the place", table(row{kind[0], kind[1], ""}), 9)
		wrong(t, "zeros", table(row{kind[0], kind[1], strings.Repeat("\x00", 100)}), 9)
		wrong(t, "ones", table(row{kind[0], kind[1], strings.Repeat("\xff", 100)}), 9)
	}
}

func TestPlaces(t *testing.T) {
	for _, x := range []struct {
		kind [2]int
		body string
	}{{[2]int{3, 10}, grouped(65, 65, 1, 70, 71, 3).text()}, {[2]int{0, 2}, ended(65, 65, 1-65, 0, 70, 71, 3-70, 0).text()}} {
		at := func(place int, behind string) string {
			return two(0, 1, x.kind[0], x.kind[1]) + four(place) + behind
		}
		for ahead := range 40 {
			filling := strings.Repeat("\x00\x04\x0c", 40)[:ahead]
			s := at(12+ahead, filling+x.body)
			right(t, "with bytes ahead", s, 9, 65, 65, 1, 70, 71, 3)
			right(t, "with bytes ahead and behind", s+filling, 9, 65, 65, 1, 70, 71, 3)
			for _, place := range []int{ahead + 11, ahead + 13, len(s) - 2, len(s) - 1, len(s), len(s) + 1} {
				wrong(t, "another place", at(place, filling+x.body), 9)
			}
		}
		for _, place := range []int{0, 1, 2, 3, 4, 8, 11, 13, 1000, 65535, 65536, 65548, 1 << 24, 1<<24 + 12, 1 << 31, 1<<31 - 1, 1<<31 + 12, 1<<32 - 1, 1<<32 - 12} {
			wrong(t, "a place where there is none", at(place, x.body), 9)
		}
	}
	// A map may stand over the rows: from 2 on, k is the format, and the second
	// of the four rows is the map's bytes from 10 to 18, which lead to 2.
	over := segmented(0, 0, 1, 0, 1, 2, 4, 0, 65535, 65535, 1, 0)
	over.search = two(6, 3, 1)
	right(t, "a map over the rows", "\x00\x00"+over.text(), 9, 0, 0, 1, 1, 2, 5)
	over.search = two(6, 3, 2)
	wrong(t, "a map over the rows, none of which is ours", "\x00\x00"+over.text(), 9)
}

// Every byte of a table that has none too many is needed.
func TestTablesCutShort(t *testing.T) {
	for what, s := range map[string]string{
		"no group":         wide(),
		"one group":        wide(65, 65, 1),
		"three groups":     wide(65, 65, 1, 70, 71, 3, 100, 100, 2),
		"an end alone":     ended().table(),
		"one segment":      ended(65, 65, 1-65, 0).table(),
		"three segments":   ended(65, 65, 1-65, 0, 70, 71, 3-70, 0, 100, 100, 2-100, 0).table(),
		"one by places":    ended(65, 66, 0, 4).and(1, 2).table(),
		"two rows":         table(row{3, 0, ""}, row{3, 10, grouped(65, 65, 1).text()}),
		"two rows, narrow": table(row{3, 1, ""}, row{3, 0, ended(65, 65, 1-65, 0).text()}),
	} {
		if !alike(t, what, s, 9) {
			t.Fatalf("%s is refused", what)
		}
		want, _ := cmap.Read(s, 9)
		for i := range len(s) {
			wrong(t, fmt.Sprint(what, ", ", i, " bytes of it"), s[:i], 9)
		}
		for _, more := range []string{"\x00", "\xff", "\x00\x00", "more", strings.Repeat("\x00\x0c", 500), s} {
			rightList(t, what+", and more", s+more, 9, want)
		}
	}
	// Rows that are not there make the table wrong, even if the one that counts is.
	s := wide(65, 65, 1)
	rows := (len(s) - 4) / 8
	for k := range 12 {
		x := s[:2] + two(k) + s[4:]
		if k >= 1 && k <= rows {
			right(t, fmt.Sprint(k, " rows"), x, 9, 65, 65, 1)
		} else {
			wrong(t, fmt.Sprint(k, " rows"), x, 9)
		}
	}
	wrong(t, "as many rows as can be told", s[:2]+two(65535)+s[4:], 9)
	for _, more := range []int{0, 1, 7, 8, 9} {
		x := two(0, 2, 3, 10) + four(12) + grouped().text()[:8] + strings.Repeat("\x00", more)
		alike(t, "a row that is a map's beginning", x, 9)
	}
}

// P11.1: format 12.

func TestNumbersOfGroups(t *testing.T) {
	right(t, "none", wide(), 9)
	right(t, "one", wide(65, 66, 1), 9, 65, 66, 1)
	right(t, "three", wide(65, 66, 1, 70, 70, 8, 1114111, 1114111, 1), 9, 65, 66, 1, 70, 70, 8, 1114111, 1114111, 1)
	for _, count := range []int{4095, 4096} {
		l := apartFrom(70000, count)
		rightList(t, fmt.Sprint(count, " groups"), wide(flat(l)...), 4096, l)
	}
	wrong(t, "4097 groups", wide(flat(apartFrom(70000, 4097))...), 4096)
	wrong(t, "5000 groups", wide(flat(apartFrom(70000, 5000))...), 4096)
	var joined, zeros []int
	for i := range 4097 {
		joined, zeros = append(joined, 100+i, 100+i, 1+i/2), append(zeros, i, i, 0)
	}
	wrong(t, "4097 groups to 0: a list of none, but too many groups", wide(zeros...), 1)
	right(t, "4096 groups to 0", wide(zeros[:3*4096]...), 1)
	alike(t, "4096 groups, two of them one", wide(joined[:3*4096]...), 4096)
	for _, count := range []int{1 << 31, 1<<32 - 1, 1 << 28, 357913941, 357913942, 1 << 24, 65537} {
		g := grouped(65, 65, 1)
		g.count = count
		wrong(t, "a great number of groups", g.table(), 9)
		g.length = 16 + 12*count
		wrong(t, "a great number of groups, and the length that goes with it", g.table(), 9)
	}
}

// One group that reaches over the numbers that are no code points is two spans.
func TestListsThatAreTooLong(t *testing.T) {
	split := []int{55295, 57344, 1}
	rest := apartFrom(70000, 4096)
	want := append(chars(55295, 55295, 1, 57344, 57344, 2050), rest[:4094]...)
	rightList(t, "just as long as may be", wide(append(slices.Clone(split), flat(rest[:4094])...)...), 4096, want)
	wrong(t, "one more", wide(append(slices.Clone(split), flat(rest[:4095])...)...), 4096)
	less := wide(append(append([]int{10, 10, 0}, split...), flat(rest[:4094])...)...)
	rightList(t, "4096 groups, one of them to 0 and one of two spans", less, 4096, want)
	wrong(t, "the same for fewer glyphs", less, 4094)
}

func TestLengthsOfGroups(t *testing.T) {
	for _, m := range []int{0, 1, 2, 5, 4096} {
		g := grouped(flat(apartFrom(70000, m))...)
		for _, length := range []int{0, 12, 15, 16, 17, 27, 28, 29, 40, 76, 12 * m, 15 + 12*m, 16 + 12*m, 17 + 12*m, 20 + 12*m, 28 + 12*m, 4 + 12*m, 1 << 31, 1<<32 - 1} {
			g.length = length
			s := g.table() + strings.Repeat("\x00", 40)
			if length == 16+12*m {
				rightList(t, "the length", s, 4096, apartFrom(70000, m))
			} else {
				wrong(t, fmt.Sprint("the length ", length, " of ", m), s, 4096)
			}
		}
	}
	for _, count := range []int{0, 1, 2, 3} {
		g := grouped(65, 65, 1, 70, 70, 2)
		g.count = count
		s := g.table() + strings.Repeat("\x00", 40)
		if count == 2 {
			right(t, "two groups", s, 9, 65, 65, 1, 70, 70, 2)
		} else {
			wrong(t, fmt.Sprint("the length of two, and ", count), s, 9)
		}
	}
	for _, free := range []string{"\x00\x00\x00\x01", "\xff\xff\xff\xff", "free", "\x80\x00\x00\x00"} {
		g := grouped(65, 65, 1)
		g.free = free
		right(t, "the four bytes that have no name", g.table(), 9, 65, 65, 1)
	}
}

func TestEndsOfGroups(t *testing.T) {
	right(t, "first is last", wide(65, 65, 1), 9, 65, 65, 1)
	right(t, "first is one below last", wide(65, 66, 1), 9, 65, 66, 1)
	wrong(t, "first is one above last", wide(66, 65, 1), 9)
	wrong(t, "first is far above last", wide(1114111, 0, 1), 9)
	right(t, "from 0 on", wide(0, 3, 1), 9, 0, 3, 1)
	for _, ahead := range []int{65, 66, 69} {
		for first := 60; first < 80; first++ {
			s := wide(65, ahead, 1, first, 80, 10)
			if first > ahead {
				alike(t, "behind the last ahead", s, 4096)
				if l, err := cmap.Read(s, 4096); len(l) == 0 || err != api.OK {
					t.Errorf("%d behind %d: %v", first, ahead, err)
				}
			} else {
				wrong(t, fmt.Sprint(first, " behind ", ahead), s, 4096)
			}
		}
	}
	wrong(t, "the same once more", wide(65, 65, 1, 65, 65, 1), 9)
	wrong(t, "falling groups", wide(70, 71, 1, 65, 66, 3), 9)
	wrong(t, "the third falls", wide(65, 65, 1, 70, 71, 1, 69, 69, 3), 9)
	wrong(t, "the third is not above the first only", wide(65, 65, 1, 70, 71, 1, 66, 66, 3), 9)
	wrong(t, "falling groups to 0", wide(70, 71, 0, 65, 66, 0), 9)
	right(t, "up to the last code point", wide(1114110, 1114111, 1), 9, 1114110, 1114111, 1)
	wrong(t, "one above", wide(1114111, 1114112, 1), 9)
	wrong(t, "nothing but one above", wide(1114112, 1114112, 1), 9)
	wrong(t, "one above, to 0", wide(1114112, 1114112, 0), 9)
}

func TestGlyphsOfGroups(t *testing.T) {
	for _, n := range []int{1, 2, 3, 9, 255, 256, 257, 4095, 4096} {
		for _, wideBy := range []int{0, 1, 2, 7, 254, 4000, 4095} {
			if wideBy >= n {
				wrong(t, "more than there are glyphs", wide(100, 100+wideBy, 0), n)
				continue
			}
			alike(t, "up to the last glyph", wide(100, 100+wideBy, n-1-wideBy), n)
			if _, err := cmap.Read(wide(100, 100+wideBy, n-1-wideBy), n); err != api.OK {
				t.Errorf("%d glyphs: %v", n, err)
			}
			wrong(t, "one above", wide(100, 100+wideBy, n-wideBy), n)
			wrong(t, "one above, behind one that is right", wide(10, 10, 0, 100, 100+wideBy, n-wideBy), n)
		}
	}
	// Of numbers that are no code points it is asked, too.
	wrong(t, "only numbers that are no code points go too far", wide(55295, 55296, 8), 9)
	right(t, "they go to the last glyph", wide(55295, 55296, 7), 9, 55295, 55295, 7)
	wrong(t, "nothing but those", wide(56000, 56000, 9), 9)
	right(t, "nothing but those, to a glyph that is there", wide(56000, 56000, 8), 9)
}

// From 2^31 on numbers of four bytes are not below 0, and do not wrap round.
func TestGreatNumbersInGroups(t *testing.T) {
	for _, x := range []int{1 << 31, 1<<31 + 1, 1<<32 - 1, 1<<32 - 65, 1<<31 - 1, 1 << 30, 1<<32 - 4096, 1 << 24, 1 << 21} {
		wrong(t, "first", wide(x, 65, 1), 9)
		wrong(t, "first and last", wide(x, x, 1), 9)
		wrong(t, "first and last of the second", wide(65, 65, 1, x, x, 1), 9)
		wrong(t, "last", wide(65, x, 1), 9)
		wrong(t, "glyph", wide(65, 65, x), 9)
		wrong(t, "glyph, of several", wide(65, 70, x), 9)
		wrong(t, "glyph and last", wide(0, x, 1<<32-x), 9)
		wrong(t, "last, ahead of a small one", wide(65, x, 1, 70, 70, 2), 9)
		wrong(t, "first, behind a small one", wide(65, 65, 1, x, 70, 2), 9)
	}
}

func TestGroupsThatGoOn(t *testing.T) {
	right(t, "the chapter's", wide(65, 66, 1, 67, 67, 3), 10, 65, 67, 1)
	right(t, "three", wide(65, 65, 1, 66, 66, 2, 67, 67, 3), 10, 65, 67, 1)
	right(t, "three, and one that does not", wide(65, 65, 1, 66, 66, 2, 67, 67, 3, 68, 68, 5), 10, 65, 67, 1, 68, 68, 5)
	right(t, "one code point between", wide(65, 66, 1, 68, 68, 3), 10, 65, 66, 1, 68, 68, 3)
	right(t, "and the glyph between", wide(65, 66, 1, 68, 68, 4), 10, 65, 66, 1, 68, 68, 4)
	right(t, "the same glyph again", wide(65, 66, 1, 67, 67, 2), 10, 65, 66, 1, 67, 67, 2)
	right(t, "a glyph too far", wide(65, 66, 1, 67, 67, 4), 10, 65, 66, 1, 67, 67, 4)
	right(t, "the first glyph again", wide(65, 66, 1, 67, 67, 1), 10, 65, 66, 1, 67, 67, 1)
	right(t, "all to one glyph", wide(65, 65, 3, 66, 66, 3, 67, 67, 3), 10, 65, 65, 3, 66, 66, 3, 67, 67, 3)
	right(t, "falling glyphs", wide(65, 65, 3, 66, 66, 2, 67, 67, 1), 10, 65, 65, 3, 66, 66, 2, 67, 67, 1)
	right(t, "beyond the numbers that are no code points", wide(55294, 55295, 1, 57344, 57345, 3), 10, 55294, 55295, 1, 57344, 57345, 3)
	right(t, "over 65535", wide(65534, 65535, 1, 65536, 65537, 3), 10, 65534, 65537, 1)
	var single []int
	for i := range 4096 {
		single = append(single, 1000+i, 1000+i, i)
	}
	right(t, "4096 that are one", wide(single...), 4096, 1001, 5095, 1)
}

func TestGroupsToNothing(t *testing.T) {
	right(t, "one", wide(65, 65, 0), 9)
	right(t, "the first of two", wide(65, 66, 0), 2, 66, 66, 1)
	right(t, "of several", wide(65, 70, 0), 9, 66, 70, 1)
	right(t, "between", wide(65, 65, 1, 66, 66, 0, 67, 67, 2), 9, 65, 65, 1, 67, 67, 2)
	right(t, "behind one from which it could go on", wide(65, 66, 0, 67, 67, 0, 68, 68, 1, 69, 69, 2), 9, 66, 66, 1, 68, 69, 1)
	right(t, "what goes on behind one to 0", wide(65, 65, 0, 66, 66, 1), 9, 66, 66, 1)
	right(t, "all", wide(65, 65, 0, 66, 66, 0, 1114111, 1114111, 0), 1)
}

func TestGroupsOverNumbersThatAreNoCodePoints(t *testing.T) {
	right(t, "over all of them", wide(55295, 57344, 1), 4096, 55295, 55295, 1, 57344, 57344, 2050)
	right(t, "from 0 on", wide(55295, 57344, 0), 4096, 57344, 57344, 2049)
	right(t, "just they", wide(55296, 57343, 1), 4096)
	right(t, "up to the first", wide(55294, 55296, 1), 4096, 55294, 55295, 1)
	right(t, "from the last on", wide(57343, 57345, 1), 4096, 57344, 57345, 2)
	right(t, "from the last on, the first to 0", wide(57343, 57345, 0), 4096, 57344, 57345, 1)
	right(t, "the first", wide(55296, 55296, 1), 4096)
	right(t, "the last", wide(57343, 57343, 1), 4096)
	right(t, "beside them", wide(55295, 55295, 1, 57344, 57344, 2), 4096, 55295, 55295, 1, 57344, 57344, 2)
	right(t, "in pieces", wide(55200, 55300, 1, 55301, 57000, 102, 57001, 57400, 1802), 4096, 55200, 55295, 1, 57344, 57400, 2145)
	wrong(t, "they fall all the same", wide(56000, 56001, 1, 56001, 56002, 1), 4096)
	wrong(t, "first above last all the same", wide(56001, 56000, 1), 4096)
}

// All kinds of groups, as if by chance.
func TestManyGroups(t *testing.T) {
	many(t, func(next func(int) int) (string, int) {
		at := []int{0, 60, 55290, 57340, 65530, 1114090}[next(6)]
		n := []int{1, 2, 9, 20, 4096}[next(5)]
		glyph := next(min(n, 20))
		var list []int
		for range next(6) {
			first := at + next(3)
			last := first + next(4)
			list = append(list, first, last, glyph)
			at = last + 1 - next(12)/11
			glyph = (glyph + last - first + 1 + next(3)/2) % min(n, 20)
		}
		g := grouped(list...)
		if next(10) == 0 {
			g.count += next(3) - 1
		}
		if next(10) == 0 {
			g.length += 12 * (next(3) - 1)
		}
		return g.table(), n
	})
}

// Each byte of some tables, turned.
func TestBytesTurned(t *testing.T) {
	for _, s := range []string{
		wide(65, 66, 1, 67, 67, 3, 1114111, 1114111, 2),
		ended(65, 66, 1-65, 0, 67, 68, 7, 6).and(2, 0, 1).table(),
		table(row{0, 3, ended(65, 66, 1-65, 0).text()}, row{0, 4, grouped(65, 66, 1).text()}),
	} {
		taken := 0
		for at := range len(s) {
			for b := range 256 {
				if alike(t, fmt.Sprint("byte ", at, " is ", b), turned(s, at, b), 12) {
					taken++
				}
			}
		}
		if taken < 1000 {
			t.Errorf("%d taken", taken)
		}
	}
}
