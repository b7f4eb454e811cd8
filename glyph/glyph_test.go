package glyph

import (
	"fmt"
	"slices"
	"strings"
	"testing"
	"unsafe"

	"colophon/api"
)

func TestTheChaptersExamples(t *testing.T) {
	g := "\x00\x01" + zeros(8) + "\x00\x00\x00\x00\x37\x05\x07"
	right(t, "a point", g, 1)
	right(t, "a point and 00", g+"\x00", 1)
	wrong(t, "a point and 01", g+"\x01")
	wrong(t, "a point, cut short", g[:len(g)-1])
	g = "\xff\xff" + zeros(8) + "\x00\x02\x00\x05\x01\x02"
	right(t, "a component", g, 0, 5)
	renumbered(t, "a component", g, []int{0, 5}, g[:12]+"\x00\x01"+g[14:], true)
	renumbered(t, "a component that is not there", g, []int{0, 4}, "", false)
	cut(t, "short numbers", "\x00\x00\x00\x01\x00\x01", "ab", 2, false, []string{"ab", ""})
}

// P10.1

// placed is loca of these numbers.
func placed(long bool, numbers ...int) string {
	var s strings.Builder
	for _, x := range numbers {
		if long {
			s.WriteString(four(x))
		} else {
			s.WriteString(two(x))
		}
	}
	return s.String()
}

var forms = []bool{false, true}

func TestOrdinarySplits(t *testing.T) {
	cut(t, "long", "\x00\x00\x00\x00\x00\x00\x00\x03\x00\x00\x00\x04", "abcd", 2, true, []string{"abc", "d"})
	cut(t, "not long", "\x00\x00\x00\x01\x00\x03", "abcdef", 2, false, []string{"ab", "cdef"})
	cut(t, "from a place on", placed(true, 1, 2, 5), "abcdefgh", 2, true, []string{"b", "cde"})
	cut(t, "not long, from a place on", placed(false, 1, 2, 4), "abcdefgh", 2, false, []string{"cd", "efgh"})
	cut(t, "one", placed(true, 0, 7), "abcdefg", 1, true, []string{"abcdefg"})
	cut(t, "one, not long", placed(false, 0, 3), "abcdefg", 1, false, []string{"abcdef"})
	glyf := bytes(70000)
	cut(t, "all bytes of a number", placed(true, 0, 255, 256, 65535, 65536, 70000), glyf, 5, true, []string{glyf[:255], glyf[255:256], glyf[256:65535], glyf[65535:65536], glyf[65536:]})
	cut(t, "not long, all bytes of a number", placed(false, 0, 127, 255, 256, 257, 35000), glyf, 5, false, []string{glyf[:254], glyf[254:510], glyf[510:512], glyf[512:514], glyf[514:]})
	// Bytes that are no glyph are none of Split's matter.
	cut(t, "any bytes", placed(true, 0, 1, 3), "\x00\xff\xff", 2, true, []string{"\x00", "\xff\xff"})
	great := bytes(131070)
	cut(t, "not long, the greatest number", placed(false, 0, 32768, 65535), great, 2, false, []string{great[:65536], great[65536:]})
	cut(t, "not long, one above that length", placed(false, 0, 32768, 65535), great[1:], 2, false, nil)
	vast := bytes(1 << 25)
	cut(t, "all four bytes", placed(true, 1, 1<<16+1, 1<<24+1, 1<<25-1), vast, 3, true, []string{vast[1 : 1<<16+1], vast[1<<16+1 : 1<<24+1], vast[1<<24+1 : 1<<25-1]})
}

func TestNumbersOfGlyphs(t *testing.T) {
	for _, long := range forms {
		loca := placed(long, make([]int, 6000)...)
		for _, n := range []int{1, 2, 3, 255, 256, 257, 4095, 4096} {
			cut(t, "empty ones", loca, "", n, long, make([]string, n))
			cut(t, "empty ones, and bytes", loca, "abc", n, long, make([]string, n))
		}
		for _, n := range []int{least, least + 1, -1 << 62, -1 << 32, -4097, -2, -1, 0, 4097, 4098, 5999, 6000, 65535, 1 << 30, 1 << 31, 1<<32 + 1, 1 << 60, 1<<61 - 1, 1 << 61, 1 << 62, 1<<62 - 1, 1<<63 - 2, most} {
			cut(t, "no number of glyphs", loca, "abc", n, long, nil)
			cut(t, "no number of glyphs, and no loca", "", "", n, long, nil)
		}
		cut(t, "no glyph, and just the number for the end", placed(long, 0), "", 0, long, nil)
		rising := placed(long, upTo(0, 4096)...)
		var want []string
		glyf := bytes(8192)
		for i := range 4096 {
			if long {
				want = append(want, glyf[i:i+1])
			} else {
				want = append(want, glyf[2*i:2*i+2])
			}
		}
		cut(t, "as many as may be", rising, glyf, 4096, long, want)
		cut(t, "of more, the first", rising, glyf, 4000, long, want[:4000])
	}
}

func TestLengthsOfLoca(t *testing.T) {
	for _, long := range forms {
		size := len(placed(long, 0))
		for _, n := range []int{1, 2, 3, 10, 257, 4096} {
			loca := placed(long, make([]int, n+1)...)
			if len(loca) != size*(n+1) {
				t.Fatalf("%d bytes", len(loca))
			}
			cut(t, "just long enough", loca, "ab", n, long, make([]string, n))
			for _, less := range []int{1, 2, 3, 4, 5, len(loca)} {
				cut(t, "too short", loca[:len(loca)-min(less, len(loca))], "ab", n, long, nil)
			}
			for _, more := range []string{"\x00", "\xff", "\xff\xff\xff", "\x00\x00\x00\x00", "\xff\xff\xff\xff\xff", bytes(40000)} {
				cut(t, "longer", loca+more, "ab", n, long, make([]string, n))
			}
		}
		for length := range size * 2 {
			cut(t, "of one glyph", zeros(length), "", 1, long, nil)
		}
	}
	// What is enough for one form is not for the other.
	cut(t, "short numbers, said to be long", placed(false, 0, 0, 0), "", 2, true, nil)
	cut(t, "long numbers, said to be short", placed(true, 0, 1), "ab", 1, false, []string{""})
}

func TestNumbersThatFall(t *testing.T) {
	glyf := bytes(200)
	for _, long := range forms {
		for _, n := range []int{1, 2, 3, 7, 40} {
			base := make([]int, n+1)
			for i := range base {
				base[i] = 2*i + 1
			}
			if l, err := Split(placed(long, base...), glyf, n, long); len(l) != n || err != api.OK {
				t.Fatalf("%v: %s, %v", base, tell(l), err)
			}
			for at := range n + 1 {
				for _, to := range []int{0, base[at] - 3, base[at] - 2, base[at] - 1, base[at] + 1, base[at] + 2, base[at] + 3, 100, 101, 200, 201, 255, 256, 65535} {
					if to < 0 {
						continue
					}
					l := slices.Clone(base)
					l[at] = to
					loca := placed(long, l...)
					want, ok := modelSplit(loca, glyf, n, long)
					unit := 2
					if long {
						unit = 1
					}
					if asked := (at == 0 || to >= l[at-1]) && (at == n || to <= l[at+1]) && unit*l[n] <= len(glyf); asked != ok {
						t.Fatalf("%v: this test's own splitter tells %v", l, ok)
					}
					cut(t, fmt.Sprint(l), loca, glyf, n, long, want)
				}
			}
		}
		cut(t, "the first falls", placed(long, 2, 1, 3, 4), glyf, 3, long, nil)
		cut(t, "a middle one falls", placed(long, 1, 3, 2, 4), glyf, 3, long, nil)
		cut(t, "the last one falls", placed(long, 1, 2, 4, 3), glyf, 3, long, nil)
		cut(t, "one that is beyond glyf, and then falls", placed(long, 1, 60000, 2, 3), glyf, 3, long, nil)
		cut(t, "one falls behind those that count", placed(long, 1, 1, 0), glyf, 1, long, []string{""})
	}
}

func TestTheLastNumber(t *testing.T) {
	for _, length := range []int{0, 1, 2, 3, 4, 254, 255, 256, 257, 65534, 65535, 65536, 100000} {
		glyf := bytes(length)
		cut(t, "glyf's length", placed(true, 0, length), glyf, 1, true, []string{glyf})
		cut(t, "one above", placed(true, 0, length+1), glyf, 1, true, nil)
		cut(t, "one above, and empty", placed(true, length+1, length+1), glyf, 1, true, nil)
		cut(t, "an empty one at the end", placed(true, length, length), glyf, 1, true, []string{""})
		cut(t, "all, then an empty one", placed(true, 0, length, length), glyf, 2, true, []string{glyf, ""})
		if length > 0 {
			cut(t, "one below", placed(true, 0, length-1), glyf, 1, true, []string{glyf[:length-1]})
		}
		cut(t, "not long, as many as there are", placed(false, 0, length/2), glyf, 1, false, []string{glyf[:length/2*2]})
		cut(t, "not long, one above", placed(false, 0, length/2+1), glyf, 1, false, nil)
		cut(t, "not long, one above, and empty", placed(false, length/2+1, length/2+1), glyf, 1, false, nil)
	}
}

// Numbers of four bytes are not below 0 from 2^31 on.
func TestGreatNumbers(t *testing.T) {
	for _, x := range []int{1<<31 - 1, 1 << 31, 1<<31 + 1, 1<<32 - 1, 0xfffffffe, 0xff000000, 0x80000004, 1 << 24} {
		cut(t, "the last", placed(true, 0, x), "abcd", 1, true, nil)
		cut(t, "all", placed(true, x, x), "abcd", 1, true, nil)
		cut(t, "the first", placed(true, x, 0), "abcd", 1, true, nil)
		cut(t, "the first of several", placed(true, x, 1, 2, 3), "abcd", 3, true, nil)
		cut(t, "one between", placed(true, 0, x, 4), "abcd", 2, true, nil)
	}
	for _, x := range []int{32767, 32768, 32769, 65535} {
		cut(t, "not long, the last", placed(false, 0, x), "abcd", 1, false, nil)
		cut(t, "not long, the first", placed(false, x, 0), "abcd", 1, false, nil)
		cut(t, "not long, one between", placed(false, 0, x, 2), "abcd", 2, false, nil)
	}
}

func TestEmptyGlyphs(t *testing.T) {
	for _, long := range forms {
		unit := 2
		if long {
			unit = 1
		}
		glyf := bytes(6 * unit)
		a, b := glyf[:2*unit], glyf[2*unit:5*unit]
		cut(t, "ahead", placed(long, 0, 0, 2, 5), glyf, 3, long, []string{"", a, b})
		cut(t, "between", placed(long, 0, 2, 2, 5), glyf, 3, long, []string{a, "", b})
		cut(t, "behind", placed(long, 0, 2, 5, 5), glyf, 3, long, []string{a, b, ""})
		cut(t, "several", placed(long, 0, 0, 0, 2, 2, 2, 5, 5, 5), glyf, 8, long, []string{"", "", a, "", "", b, "", ""})
		cut(t, "all", placed(long, 3, 3, 3, 3), glyf, 3, long, []string{"", "", ""})
		cut(t, "all, and nothing there", placed(long, 0, 0, 0, 0), "", 3, long, []string{"", "", ""})
	}
}

func TestManySplits(t *testing.T) {
	taken := 0
	for seed := range 30000 {
		next := numbers(seed)
		n, long := 1+next(5), next(2) == 1
		glyf := bytes(next(20))
		var places []int
		for range n + 1 {
			places = append(places, next(len(glyf)/2+2))
		}
		if next(4) > 0 {
			slices.Sort(places)
		}
		loca := placed(long, places...)
		if next(6) == 0 {
			loca = loca[:len(loca)-1-next(3)%len(loca)]
		}
		if next(6) == 0 {
			loca += bytes(next(9))
		}
		want, ok := modelSplit(loca, glyf, n, long)
		cut(t, fmt.Sprint("seed ", seed), loca, glyf, n, long, want)
		if ok {
			taken++
		}
	}
	if taken < 6000 || taken > 24000 {
		t.Errorf("%d of 30000 taken: too few of one kind", taken)
	}
}

// P10.2

func TestTablesWrittenOut(t *testing.T) {
	for _, x := range []struct {
		l          []string
		loca, glyf string
	}{
		{[]string{""}, "\x00\x00\x00\x00\x00\x00\x00\x00", ""},
		{[]string{"a"}, "\x00\x00\x00\x00\x00\x00\x00\x04", "a\x00\x00\x00"},
		{[]string{"ab"}, "\x00\x00\x00\x00\x00\x00\x00\x04", "ab\x00\x00"},
		{[]string{"abc"}, "\x00\x00\x00\x00\x00\x00\x00\x04", "abc\x00"},
		{[]string{"abcd"}, "\x00\x00\x00\x00\x00\x00\x00\x04", "abcd"},
		{[]string{"abcde"}, "\x00\x00\x00\x00\x00\x00\x00\x08", "abcde\x00\x00\x00"},
		{[]string{"", "", ""}, zeros(16), ""},
		{[]string{"abcdefg", "", "hijklmnop", "q"}, "\x00\x00\x00\x00\x00\x00\x00\x08\x00\x00\x00\x08\x00\x00\x00\x14\x00\x00\x00\x18", "abcdefg\x00hijklmnop\x00\x00\x00q\x00\x00\x00"},
		{[]string{"\x00", "\xff\xff\xff\xff\xff"}, "\x00\x00\x00\x00\x00\x00\x00\x04\x00\x00\x00\x0c", "\x00\x00\x00\x00\xff\xff\xff\xff\xff\x00\x00\x00"},
		{[]string{bytes(70001), "z"}, "\x00\x00\x00\x00\x00\x01\x11\x74\x00\x01\x11\x78", bytes(70001) + "\x00\x00\x00z\x00\x00\x00"},
	} {
		if loca, glyf := joined(t, "written out", x.l); loca != x.loca || glyf != x.glyf {
			t.Errorf("%s: %x, %s; asked: %x, %s", tell(x.l), loca, tell(glyf), x.loca, tell(x.glyf))
		}
	}
}

func TestLengthsOfGlyphs(t *testing.T) {
	for a := range 18 {
		joined(t, "one", []string{bytes(a)})
		for b := range 18 {
			joined(t, "two", []string{bytes(a), bytes(b)})
			joined(t, "three", []string{bytes(b), "", bytes(a)})
		}
	}
	for _, n := range []int{252, 253, 255, 256, 257, 65532, 65535, 65536, 65537} {
		joined(t, "long ones", []string{bytes(n), "x", bytes(n)})
	}
	for seed := range 3000 {
		next := numbers(seed)
		var l []string
		for range 1 + next(20) {
			l = append(l, bytes(next(10)))
		}
		joined(t, fmt.Sprint("seed ", seed), l)
	}
}

func TestNumbersOfGlyphsToJoin(t *testing.T) {
	refused := func(l []string, want api.Errno) {
		t.Helper()
		joined(t, fmt.Sprint(len(l), " glyphs"), l)
		if loca, glyf, err := Join(l); loca != "" || glyf != "" || err != want {
			t.Errorf("%d glyphs: %s, %s, %v", len(l), tell(loca), tell(glyf), err)
		}
	}
	refused(nil, api.ErrGlyph)
	refused([]string{}, api.ErrGlyph)
	for _, n := range []int{1, 2, 255, 256, 4095, 4096} {
		for _, g := range []string{"", "a", "abcd", bytes(17)} {
			if loca, glyf := joined(t, fmt.Sprint(n, " glyphs"), slices.Repeat([]string{g}, n)); len(loca) != 4*n+4 || len(glyf) != n*((len(g)+3)/4*4) {
				t.Errorf("%d glyphs of %d bytes: %d and %d bytes", n, len(g), len(loca), len(glyf))
			}
		}
	}
	for _, n := range []int{4097, 4098, 8192, 70000} {
		refused(make([]string, n), api.ErrGlyph)
		refused(slices.Repeat([]string{bytes(5)}, n), api.ErrGlyph)
		refused(slices.Repeat([]string{bytes(1000)}, n), api.ErrGlyph) // ahead of ErrLong
	}
	refused(slices.Repeat([]string{bytes(257)}, 4096), api.ErrLong)
	refused(slices.Repeat([]string{bytes(1 << 22)}, 4096), api.ErrLong)
}

func TestLengthOfGlyf(t *testing.T) {
	full := bytes(api.MaxBytes)
	for _, x := range []struct {
		what string
		l    []string
		ok   bool
	}{
		{"one, just as long", []string{full}, true},
		{"one below", []string{full[1:]}, true},
		{"two below", []string{full[2:]}, true},
		{"three below", []string{full[3:]}, true},
		{"four below", []string{full[4:]}, true},
		{"one above", []string{full + "a"}, false},
		{"twice as long", []string{full + full}, false},
		{"just as long, and empty ones", []string{"", full, ""}, true},
		{"just as long, and a byte", []string{full, "a"}, false},
		{"a byte, and just as long", []string{"a", full}, false},
		{"four below, and a byte", []string{full[4:], "a"}, true},
		{"four below, and four bytes", []string{full[4:], "abcd"}, true},
		{"four below, and five bytes", []string{full[4:], "abcde"}, false},
		{"four below, and two of a byte", []string{full[4:], "a", "b"}, false},
		{"three below, and a byte: its filling is too much", []string{full[3:], "a"}, false},
		{"seven below, and a byte", []string{full[7:], "a"}, true},
		{"seven below, and five bytes", []string{full[7:], "abcde"}, false},
		{"eight below, and two of a byte", []string{full[8:], "a", "b"}, true},
		{"as many as may be, just as long", slices.Repeat([]string{bytes(256)}, 4096), true},
		{"as many as may be, filled up to that", slices.Repeat([]string{bytes(253)}, 4096), true},
		{"as many, one of them longer by one", append(slices.Repeat([]string{bytes(253)}, 4095), bytes(257)), false},
	} {
		loca, glyf := joined(t, x.what, x.l)
		if (loca != "") != x.ok || len(glyf) > api.MaxBytes {
			t.Errorf("%s: %d and %d bytes", x.what, len(loca), len(glyf))
		}
		if _, _, err := Join(x.l); err != api.OK && err != api.ErrLong {
			t.Errorf("%s: %v", x.what, err)
		}
	}
}

// P10.4

func TestOrdinaryRenumbers(t *testing.T) {
	renumbered(t, "one", chain(5), []int{0, 5}, chain(1), true)
	renumbered(t, "one, at the first place", chain(5), []int{5, 0}, chain(0), true)
	renumbered(t, "several", chain(7, 3, 12), []int{0, 3, 7, 12}, chain(2, 1, 3), true)
	renumbered(t, "the last of several is not there", chain(7, 3, 12), []int{0, 3, 7}, "", false)
	renumbered(t, "a middle one is not there", chain(7, 3, 12), []int{0, 12, 7}, "", false)
	renumbered(t, "the first is not there", chain(7, 3, 12), []int{0, 3, 12}, "", false)
	renumbered(t, "one that stands twice", chain(7, 7, 3, 7), []int{3, 7}, chain(1, 1, 0, 1), true)
	renumbered(t, "all alike", chain(9, 9, 9), []int{9}, chain(0, 0, 0), true)
	renumbered(t, "nothing to find in", chain(0), nil, "", false)
	renumbered(t, "nothing to find in, once more", chain(0), []int{}, "", false)
	renumbered(t, "as many as may be", chain(upTo(100, 163)...), upTo(60, 200), chain(upTo(40, 103)...), true)
	// A number that is put in is not looked for again.
	renumbered(t, "each other's", chain(0, 1, 2), []int{1, 2, 0}, chain(2, 0, 1), true)
	g := made("\x00\x03abc\x00\x00", part(32|1|8, 0x0102), part(32|64, 0x0304), part(256|128, 0x0102))
	want := made("\x00\x03abc\x00\x00", part(32|1|8, 2), part(32|64, 1), part(256|128, 2))
	renumbered(t, "all that stands between stays", g, []int{9, 0x0304, 0x0102}, want, true)
}

func TestRenumberOfGlyphsWithoutParts(t *testing.T) {
	for _, old := range [][]int{nil, {}, {0}, {5, 5}, {-1, least, most}, everyNumber, make([]int, 70000)} {
		renumbered(t, "empty", "", old, "", true)
		for _, g := range some() {
			if x, _ := model(g); len(x.parts) == 0 {
				renumbered(t, "without parts", g, old, g, true)
			}
		}
	}
}

func TestFirstOccurrences(t *testing.T) {
	renumbered(t, "twice", chain(5), []int{0, 5, 5}, chain(1), true)
	renumbered(t, "at the beginning and the end", chain(5), []int{5, 1, 2, 5}, chain(0), true)
	renumbered(t, "everywhere", chain(5, 5), []int{5, 5, 5, 5}, chain(0, 0), true)
	renumbered(t, "several twice", chain(1, 2, 3), []int{3, 2, 3, 1, 2, 1}, chain(3, 1, 0), true)
	for first := range 6 {
		for second := first; second < 6; second++ {
			old := []int{9, 8, 7, 6, 4, 3}
			old[first], old[second] = 5, 5
			renumbered(t, fmt.Sprint(old), chain(5), old, chain(first), true)
		}
	}
}

func TestNumbersOfOld(t *testing.T) {
	// Only what is just a component's number is one.
	odd := []int{-1, -5, least, most, 65536 + 5, 5 - 65536, 5 | 1<<16, 5 | 1<<32, 5 - 1<<32, 65536, 0}
	renumbered(t, "odd ones ahead", chain(5, 65535, 0), append(slices.Clone(odd), 65535, 5), chain(12, 11, 10), true)
	renumbered(t, "odd ones alone", chain(5), odd, "", false)
	renumbered(t, "below 0", chain(65535), []int{-1}, "", false)
	renumbered(t, "below 0, and the one", chain(65535), []int{-1, 65535}, chain(1), true)
	renumbered(t, "beyond two bytes", chain(0), []int{65536, 1 << 32, least}, "", false)
	for _, n := range []int{0, 1, 254, 255, 256, 257, 32767, 32768, 65534, 65535} {
		renumbered(t, fmt.Sprint("the number ", n), chain(n), []int{n}, chain(0), true)
		renumbered(t, fmt.Sprint("the number ", n, " among all"), chain(n, n), everyNumber, chain(n, n), true)
		back := slices.Clone(everyNumber)
		slices.Reverse(back)
		renumbered(t, fmt.Sprint("the number ", n, " among all, backwards"), chain(n), back, chain(65535-n), true)
		renumbered(t, fmt.Sprint("among all but ", n), chain(n), slices.Delete(slices.Clone(everyNumber), n, n+1), "", false)
	}
}

func TestPlacesInOld(t *testing.T) {
	for _, length := range []int{65535, 65536, 65537, 65538, 200000} {
		for _, place := range []int{0, 1, 255, 256, 32767, 32768, 65534, 65535, 65536, 65537, 131072, 131073, length - 1} {
			if place >= length {
				continue
			}
			old := slices.Repeat([]int{-1}, length)
			old[place] = 5
			renumbered(t, fmt.Sprint("at ", place, " of ", length), chain(5), old, chain(place), place <= 65535)
			old[length-1] = 5
			renumbered(t, fmt.Sprint("at ", place, " and the end of ", length), chain(5), old, chain(place), place <= 65535)
			old[min(100, place)] = 7
			if old[place] == 5 {
				renumbered(t, fmt.Sprint("at ", place, " of ", length, ", and another"), chain(7, 5), old, chain(min(100, place), place), place <= 65535)
			}
		}
	}
	old := slices.Concat(slices.Repeat([]int{3}, 65536), []int{5})
	renumbered(t, "one place too far", chain(5), old, "", false)
	renumbered(t, "one of two is a place too far", chain(3, 5), old, "", false)
	renumbered(t, "a long old, and one at its beginning", chain(3, 3), old, chain(0, 0), true)
}

func TestRenumberOfWrongGlyphs(t *testing.T) {
	for _, g := range some()[1:] {
		for _, s := range []string{g[:len(g)/2], g + "\x01", "\x00" + g, g[:9], "\xff\xfe" + g[2:]} {
			renumbered(t, "wrong", s, everyNumber, "", false)
			renumbered(t, "wrong, and nothing in old", s, nil, "", false)
		}
	}
}

// All bytes but those of the components' numbers stay.
func TestBytesThatStay(t *testing.T) {
	old := upTo(-300, 65535)
	for i, g := range some() {
		x, _ := model(g)
		if slices.Contains(x.parts, 65535) {
			renumbered(t, "too far behind", g, old, "", false)
			continue
		}
		s, err := Renumber(g, old)
		if len(s) != len(g) || err != api.OK {
			t.Fatalf("glyph %d: %s, %v", i, tell(s), err)
		}
		for at := range len(g) {
			j := slices.IndexFunc(x.places, func(place int) bool { return at == place || at == place+1 })
			if j < 0 && s[at] != g[at] {
				t.Errorf("glyph %d: its byte at %d is changed", i, at)
			}
			if j >= 0 && s[at] != two(x.parts[j] + 300)[at-x.places[j]] {
				t.Errorf("glyph %d: its byte at %d is %d", i, at, s[at])
			}
		}
	}
}

func TestManyRenumbers(t *testing.T) {
	done := 0
	for seed := range 20000 {
		next := numbers(seed)
		g := chance(next)
		var old []int
		for range next(40) {
			old = append(old, next(12)-2)
		}
		want, ok := modelRenumber(g, old)
		renumbered(t, fmt.Sprint("seed ", seed), g, old, want, ok)
		if ok && want != g {
			done++
		}
	}
	if done < 2000 || done > 15000 {
		t.Errorf("%d of 20000 renumbered: too few of one kind", done)
	}
}

// P10.5

func TestSplitOfJoin(t *testing.T) {
	check := func(l []string) {
		t.Helper()
		loca, glyf := joined(t, "some glyphs", l)
		back, err := Split(loca, glyf, len(l), true)
		if len(back) != len(l) || err != api.OK {
			t.Fatalf("%s comes back as %s, %v", tell(l), tell(back), err)
		}
		for i, g := range l {
			if len(back[i])%4 != 0 || len(back[i])-len(g) > 3 || back[i] != g+zeros(len(back[i])-len(g)) {
				t.Errorf("%s comes back as %s", tell(g), tell(back[i]))
			}
			x, _ := model(g)
			right(t, "a glyph that comes back", back[i], x.points, x.parts...)
		}
		again, once, err := Join(back)
		if again != loca || once != glyf || err != api.OK {
			t.Errorf("%s, joined once more: %s, %s, %v", tell(l), tell(again), tell(once), err)
		}
	}
	check(some())
	for _, g := range some() {
		check([]string{g})
		check([]string{"", g, ""})
		check([]string{g, g, contours(1).text()})
		for n := range 9 {
			if g != "" {
				check([]string{g + zeros(n)})
			}
		}
	}
	for seed := range 3000 {
		next := numbers(seed)
		var l []string
		for range 1 + next(12) {
			l = append(l, chance(next))
		}
		check(l)
	}
	check(slices.Repeat(some(), 273))
}

// What is handed in is not changed, and nothing told is shared.

func TestNothingHandedInIsChanged(t *testing.T) {
	for _, l := range [][]string{{"a"}, some(), nil, make([]string, 4096), make([]string, 4097), {bytes(api.MaxBytes), "x"}} {
		roomy := slices.Concat(l, []string{"spare", "room"})
		was := slices.Clone(roomy)
		Join(roomy[:len(l)])
		if !slices.Equal(roomy, was) {
			t.Errorf("%s is changed to %s", tell(was), tell(roomy))
		}
	}
	for _, old := range [][]int{nil, {5}, {0, 5, 5}, {7, 3, 1}, everyNumber, make([]int, 65537)} {
		roomy := slices.Concat(old, []int{5, 99})
		was := slices.Clone(roomy)
		for _, g := range append(some(), "wrong") {
			s := strings.Clone(g)
			Renumber(s, roomy[:len(old)])
			Check(s)
			Points(s)
			Parts(s)
			if s != g {
				t.Errorf("%s is changed to %s", tell(g), tell(s))
			}
		}
		if !slices.Equal(roomy, was) {
			t.Errorf("%s is changed to %s", tell(was), tell(roomy))
		}
	}
	if s, err := Renumber(chain(5), []int{0, 5}[:1]); s != "" || err != api.ErrGlyph {
		t.Error("Renumber looks into spare room")
	}
	if loca, glyf, err := Join([]string{"a", "b"}[:1]); len(loca) != 8 || len(glyf) != 4 || err != api.OK {
		t.Error("Join looks into spare room")
	}
}

// stretch is the memory of a text, or of a list with its spare room. It holds a
// pointer, not a number, so that this memory is not freed and given to another
// answer while stretches are gathered.
type stretch struct {
	what string
	at   unsafe.Pointer
	size uintptr
}

func (a stretch) from() uintptr { return uintptr(a.at) }
func (a stretch) to() uintptr   { return uintptr(a.at) + a.size }

func ofText(what, s string) stretch {
	return stretch{what, unsafe.Pointer(unsafe.StringData(s)), uintptr(len(s))}
}

func ofNumbers(what string, l []int) stretch {
	return stretch{what, unsafe.Pointer(unsafe.SliceData(l)), uintptr(cap(l)) * unsafe.Sizeof(0)}
}

func ofTexts(what string, l []string) []stretch {
	all := []stretch{{what, unsafe.Pointer(unsafe.SliceData(l)), uintptr(cap(l)) * unsafe.Sizeof("")}}
	for i, s := range l {
		all = append(all, ofText(fmt.Sprint(what, "'s text ", i), s))
	}
	return all
}

func apart(t *testing.T, l []stretch) {
	t.Helper()
	for i, a := range l {
		for _, b := range l[:i] {
			if max(a.from(), b.from()) < min(a.to(), b.to()) {
				t.Errorf("%s and %s share memory", a.what, b.what)
			}
		}
	}
}

func TestAnswersAreNewMemory(t *testing.T) {
	for _, l := range [][]string{{""}, {"a"}, {"abcd"}, {"a", "", "b", "cdefg"}, some()} {
		given := make([]string, len(l))
		for i, g := range l {
			given[i] = strings.Clone(g)
		}
		all := ofTexts("what is handed in", given)
		loca, glyf, _ := Join(given)
		again, once, _ := Join(given)
		all = append(all, ofText("loca", loca), ofText("glyf", glyf), ofText("the next loca", again), ofText("the next glyf", once))
		for _, long := range forms {
			numbers := upTo(0, len(glyf))
			if !long {
				numbers = upTo(0, len(glyf)/2)
			}
			places := placed(long, append(numbers, numbers[len(numbers)-1])...)
			first, _ := Split(places, glyf, len(numbers), long)
			second, _ := Split(places, glyf, len(numbers), long)
			if len(first) != len(numbers) {
				t.Fatalf("%s", tell(first))
			}
			all = append(append(append(all, ofText("places", places)), ofTexts("one answer", first)...), ofTexts("the next", second)...)
			clear(first[:cap(first)])
			cut(t, "behind changes of another answer", places, glyf, len(numbers), long, second)
		}
		apart(t, all)
	}
	old := append(upTo(0, 200), 65535)
	all := []stretch{ofNumbers("old", old)}
	for i, g := range some() {
		g = strings.Clone(g)
		all = append(all, ofText(fmt.Sprint("glyph ", i), g))
		for j := range 2 {
			what := fmt.Sprint("glyph ", i, ", time ", j)
			s, err := Renumber(g, old)
			l, _ := Parts(g)
			if err != api.OK {
				t.Errorf("%s: %v", what, err)
			}
			all = append(all, ofText(what+", renumbered", s), ofNumbers(what+", its parts", l))
		}
	}
	apart(t, all)
	first, _ := Parts(chain(1, 2, 3))
	second, _ := Parts(chain(1, 2, 3))
	for i := range first[:cap(first)] {
		first[:cap(first)][i] = -9
	}
	if !slices.Equal(second, []int{1, 2, 3}) {
		t.Errorf("%v", second)
	}
	right(t, "behind changes of an answer", chain(1, 2, 3), 0, 1, 2, 3)
}

// With an error nothing else is told, however far the reader came.
func TestNothingBesideAnError(t *testing.T) {
	for _, g := range []string{
		chain(1, 2, 3) + "\x01", chain(1, 2, 3)[:27], chain(upTo(1, 65)...), contours(3, 4).text() + "\x01", contours(3, 4).text()[:20], "\x00", made("", part(256, 5)), made("\x00\x05abc", part(32, 6), part(256, 5)),
	} {
		wrong(t, "a fault behind what is right", g)
		if l, err := Parts(g); l != nil || err != api.ErrGlyph {
			t.Errorf("%s: %v, %v", tell(g), l, err)
		}
	}
	if l, err := Split(placed(true, 0, 1, 2, 1), "ab", 3, true); l != nil || err != api.ErrGlyph {
		t.Errorf("%s, %v", tell(l), err)
	}
	if l, err := Split(placed(true, 0, 1, 3), "ab", 2, true); l != nil || err != api.ErrGlyph {
		t.Errorf("%s, %v", tell(l), err)
	}
	if s, err := Renumber(chain(1, 2, 3), []int{1, 2}); s != "" || err != api.ErrGlyph {
		t.Errorf("%s, %v", tell(s), err)
	}
	if loca, glyf, err := Join([]string{"a", bytes(api.MaxBytes)}); loca != "" || glyf != "" || err != api.ErrLong {
		t.Errorf("%s, %s, %v", tell(loca), tell(glyf), err)
	}
}

func TestAnswersHangOnTheArgumentsAlone(t *testing.T) {
	for range 3 {
		for _, g := range some() {
			held(t, "a glyph", g, true)
			wrong(t, "a wrong one", g+"\x00\x01")
		}
		joined(t, "some", some())
		renumbered(t, "a glyph", chain(3, 2), []int{1, 2, 3}, chain(2, 1), true)
		cut(t, "two", placed(true, 0, 1, 2), "ab", 2, true, []string{"a", "b"})
		Join(make([]string, 5000))
		Split("", "", 1, true)
		Renumber(chain(1), nil)
		Parts(chain(upTo(1, 80)...))
	}
}
