package glyph

import (
	"fmt"
	"slices"
	"strings"
	"testing"
)

// P10.3

func TestOrdinaryOutlines(t *testing.T) {
	right(t, "empty", "", 0)
	right(t, "one point", "\x00\x01\x00\x00\x00\x00\x00\x64\x00\x64\x00\x00\x00\x00\x37\x05\x07", 1)
	right(t, "a triangle", "\x00\x01\x00\x00\x00\x00\x01\xf4\x02\xbc\x00\x02\x00\x00\x31\x01\x11\x01\xf4\xfe\xd4\x02\xbc", 3)
	right(t, "two contours with instructions", "\x00\x02box of 8\x00\x02\x00\x05\x00\x03abc\x3f\x05"+"xxxxxx"+"yyyyyy", 6)
	right(t, "one component", "\xff\xffbox of 8\x00\x02\x00\x05\x01\x02", 0, 5)
	right(t, "an accented letter", "\xff\xffbox of 8\x02\x26\x00\x44\x00\x00\x01\x07\x00\x8d\x00\x9b\x00\x19\x00\x04abcd", 0, 0x44, 0x8d)
	for i, g := range some() {
		held(t, fmt.Sprint("glyph ", i), g, true)
		if p, _ := Points(g); (p > 0) != (g != "" && g[0] != 0xff) {
			t.Errorf("glyph %d has %d points", i, p)
		}
	}
}

func TestShortTexts(t *testing.T) {
	for a := range 256 {
		wrong(t, "one byte", one(a))
		for b := range 256 {
			held(t, "two bytes", one(a)+one(b), false)
		}
	}
	for n := 1; n < 40; n++ {
		wrong(t, fmt.Sprint(n, " bytes 0"), zeros(n))
		wrong(t, fmt.Sprint(n, " bytes 255"), strings.Repeat("\xff", n))
	}
}

func TestNumbersOfContours(t *testing.T) {
	for _, c := range []int{1, 2, 3, 255, 256, 257, 1000} {
		right(t, fmt.Sprint(c, " contours"), contours(slices.Repeat([]int{1}, c)...).text(), c)
		right(t, fmt.Sprint(c, " contours of two points"), contours(slices.Repeat([]int{2}, c)...).text(), 2*c)
	}
	x := contours(1)
	for c := range 65536 {
		x.c = c
		held(t, fmt.Sprint("said to be ", c), x.text(), c == 1)
		// Enough of everything behind: all that is at fault is what c says.
		if c == 0 || c >= 32768 && c < 65535 {
			if c%1000 == 0 || c == 32769 || c == 65534 {
				x := simple{c: c, box: "box of 8", ends: upTo(0, max(c-1, 0)), flags: runs(0x30, max(c, 1))}
				wrong(t, fmt.Sprint(c, " contours"), x.text())
			}
		}
	}
	wrong(t, "none, and nothing behind", "\x00\x00box of 8")
	wrong(t, "none, no instructions", "\x00\x00box of 8\x00\x00")
	wrong(t, "none, and bytes 0", "\x00\x00box of 8"+zeros(20))
	full := simple{c: 32767, box: "box of 8", ends: upTo(0, 32766), flags: runs(0x30, 32767)}
	right(t, "as many as may be", full.text(), 32767)
	wide := simple{c: 32767, box: "box of 8", ends: upTo(32769, 65535), flags: runs(0x37, 65536), xs: bytes(65536), ys: bytes(65536)}
	right(t, "and of as many points", wide.text(), 65536)
	wrong(t, "a point too few", strings.TrimSuffix(full.text(), "\x38\xfe")+"\x38\xfd")
	wrong(t, "a point too many", strings.TrimSuffix(full.text(), "\x38\xfe")+"\x38\xff")
	over := simple{c: 32768, box: "box of 8", ends: upTo(0, 32767), flags: runs(0x30, 32768)}
	wrong(t, "one more", over.text())
}

func TestNumbersOfPoints(t *testing.T) {
	for _, p := range []int{1, 2, 3, 255, 256, 257, 32767, 32768, 32769, 65535, 65536} {
		x := simple{c: 1, box: "box of 8", ends: []int{p - 1}, flags: strings.Repeat("\x30", p)}
		right(t, fmt.Sprint(p, " points without a byte"), x.text(), p)
		x.flags, x.xs, x.ys = runs(0, p), bytes(2*p), bytes(2*p)
		right(t, fmt.Sprint(p, " points of four bytes"), x.text(), p)
		wrong(t, fmt.Sprint(p, " points, a byte less"), strings.TrimSuffix(x.text(), x.ys[2*p-1:]))
		right(t, fmt.Sprint(p, " points, a byte 0 more"), x.text()+"\x00", p)
		wrong(t, fmt.Sprint(p, " points, a byte more"), x.text()+"\x01")
	}
}

// The last points of contours rise.
func TestLastPoints(t *testing.T) {
	try := func(ends ...int) {
		t.Helper()
		rises := true
		for i := range ends[1:] {
			rises = rises && ends[i] < ends[i+1]
		}
		// As many points as the last number says, and as the greatest one says.
		for _, p := range []int{ends[len(ends)-1] + 1, slices.Max(ends) + 1} {
			x := simple{c: len(ends), box: "box of 8", ends: ends, flags: runs(0x30, p)}
			held(t, fmt.Sprint("last points ", ends), x.text(), rises)
		}
	}
	for _, ends := range [][]int{
		{0}, {1}, {65535},
		{0, 1}, {0, 65535}, {5, 6}, {255, 256}, {256, 511}, {32767, 32768}, {65534, 65535},
		{0, 0}, {1, 0}, {5, 5}, {6, 5}, {256, 255}, {32768, 32767}, {65535, 65535}, {65535, 0}, {65535, 65534},
		{0, 1, 2}, {3, 7, 9}, {0, 0, 1}, {1, 0, 2}, {0, 2, 2}, {0, 2, 1}, {2, 1, 0}, {7, 7, 7}, {9, 3, 12}, {3, 12, 9},
		{0, 255, 256, 65535}, {0, 256, 255, 65535},
	} {
		try(ends...)
	}
	for n := 2; n < 8; n++ {
		for at := 1; at < n; at++ {
			for _, by := range []int{0, 1, 2} {
				ends := upTo(10, 9+n)
				for i := range ends {
					ends[i] *= 3
				}
				ends[at] = ends[at-1] + 1 - by
				try(ends...)
			}
		}
	}
}

func TestInstructions(t *testing.T) {
	for _, n := range []int{0, 1, 2, 3, 17, 255, 256, 257, 32767, 32768, 65535} {
		x := contours(1).instructed(bytes(n))
		right(t, fmt.Sprint(n, " bytes of instructions"), x.text(), 1)
		right(t, fmt.Sprint(n, " bytes of instructions, all 0"), contours(1).instructed(zeros(n)).text(), 1)
		for _, more := range []int{1, 2, 3, 4, 256, 40000} {
			x.count = n + more
			if x.count <= 65535 {
				held(t, fmt.Sprint(n, " bytes, said to be ", x.count), x.text(), false)
			}
		}
		if x.count = n - 1; n > 0 {
			alike(t, fmt.Sprint(n, " bytes, said to be one less"), x.text())
		}
	}
	wrong(t, "no number of them", "\x00\x01box of 8\x00\x00")
	wrong(t, "half a number of them", "\x00\x01box of 8\x00\x00\x00")
	wrong(t, "as many as are left, and no flag", "\x00\x01box of 8\x00\x00\x00\x03\x30\x30\x30")
	right(t, "one less than are left", "\x00\x01box of 8\x00\x00\x00\x02\x30\x30\x30", 1)
}

// Each flag asks for just as many bytes.
func TestFlags(t *testing.T) {
	for f := range 256 {
		x, y := 2, 2
		if f&16 != 0 {
			x = 0
		}
		if f&32 != 0 {
			y = 0
		}
		if f&2 != 0 {
			x = 1
		}
		if f&4 != 0 {
			y = 1
		}
		flags := one(f)
		if f&8 != 0 {
			flags += "\x00"
		}
		for _, points := range []int{1, 2, 5} {
			what := fmt.Sprint(points, " points with the flag ", f)
			g := flagged(points, strings.Repeat(flags, points), x*points, y*points).text()
			right(t, what, g, points)
			right(t, what+" and a byte 0", g+"\x00", points)
			wrong(t, what+" and a byte 1", g+"\x01")
			wrong(t, what+", cut short", g[:len(g)-1])
		}
	}
	// The flags of several points, each with its own bytes.
	right(t, "all kinds", flagged(9, "\x00\x02\x04\x06\x10\x12\x20\x24\x30", 2+1+2+1+0+1+2+2+0, 2+2+1+1+2+2+0+1+0).text(), 9)
	wrong(t, "all kinds, a byte less", flagged(9, "\x00\x02\x04\x06\x10\x12\x20\x24\x30", 11, 10).text())
	wrong(t, "all kinds, a byte more", flagged(9, "\x00\x02\x04\x06\x10\x12\x20\x24\x30", 11, 12).text())
	// The bits that ask for nothing.
	for _, f := range []int{1, 64, 128, 1 + 64 + 128} {
		right(t, fmt.Sprint("the flag ", f), flagged(1, one(f), 2, 2).text(), 1)
	}
}

func TestFlagsThatAreRepeated(t *testing.T) {
	for _, f := range []struct{ flag, x, y int }{{8, 2, 2}, {8 + 2, 1, 2}, {8 + 4, 2, 1}, {8 + 16, 0, 2}, {8 + 32, 2, 0}, {8 + 16 + 32, 0, 0}, {8 + 2 + 16, 1, 2}, {8 + 4 + 32, 2, 1}, {255, 1, 1}} {
		for _, points := range []int{1, 2, 3, 10, 255, 256} {
			what := fmt.Sprint(points, " points, the flag ", f.flag)
			g := flagged(points, one(f.flag)+one(points-1), f.x*points, f.y*points).text()
			right(t, what, g, points)
			if points < 256 {
				wrong(t, what+", one more", flagged(points, one(f.flag)+one(points), f.x*(points+1), f.y*(points+1)).text())
				wrong(t, what+", one more, but no bytes for it", flagged(points, one(f.flag)+one(points), f.x*points, f.y*points).text())
				wrong(t, what+", as many as can be said", flagged(points, one(f.flag)+"\xff", 256*f.x, 256*f.y).text())
			}
			if points > 1 {
				right(t, what+", one less, then one", flagged(points, one(f.flag)+one(points-2)+"\x37", f.x*(points-1)+1, f.y*(points-1)+1).text(), points)
				right(t, what+", one behind one", flagged(points, "\x37"+one(f.flag)+one(points-2), f.x*(points-1)+1, f.y*(points-1)+1).text(), points)
				wrong(t, what+", one less", flagged(points, one(f.flag)+one(points-2), 0, 0).text())
			}
			right(t, what+", each for itself", flagged(points, strings.Repeat(one(f.flag)+"\x00", points), f.x*points, f.y*points).text(), points)
		}
	}
	for points := 1; points < 12; points++ {
		for more := range 14 {
			held(t, fmt.Sprint(points, " points, the flag of one and ", more), flagged(points, "\x38"+one(more)+strings.Repeat("\x30", max(points-more-1, 0)), 0, 0).text(), more < points)
			held(t, fmt.Sprint(points, " points, the second flag of one and ", more), flagged(points, "\x30\x38"+one(more)+strings.Repeat("\x30", max(points-more-2, 0)), 0, 0).text(), more < points-1)
		}
	}
	wrong(t, "no byte that says how many", flagged(1, "\x38", 0, 0).text())
	wrong(t, "none at the last point", flagged(2, "\x30\x38", 0, 0).text())
	right(t, "none at one that is behind the last", flagged(1, "\x30", 0, 0).text(), 1)
	right(t, "two stretches", flagged(515, "\x3f\xff\x38\x01\x3f\xff\x30", 512, 512).text(), 515)
	wrong(t, "the second stretch is too long", flagged(511, "\x3f\xff\x3f\xff", 512, 512).text())
}

// Cut short at any place, a glyph is wrong; what is left of one that was filled
// up is not.
func TestGlyphsCutShort(t *testing.T) {
	for i, g := range some() {
		core := g
		for core != "" {
			if _, ok := model(core[:len(core)-1]); !ok {
				break
			}
			core = core[:len(core)-1]
		}
		for length := range len(g) {
			held(t, fmt.Sprint("glyph ", i, ", its first ", length, " bytes"), g[:length], length >= len(core) || length == 0)
		}
		if i == 0 {
			continue
		}
		if len(g)-len(core) > 6 || len(core) < 15 {
			t.Errorf("glyph %d has %d bytes, of which only %d are needed", i, len(g), len(core))
		}
	}
	// These end with the bytes named, so each cut is at another of their fields.
	for _, g := range []string{
		contours(2, 3).instructed("instr").text(),
		flagged(4, "\x08\x01\x37\x00", 2*2+1+2, 2*2+1+2).text(),
		made("\x00\x02ab", part(32+1+8, 1), part(32+64, 2), part(32+1+128, 3), part(256, 4)),
		chain(upTo(1, 64)...),
	} {
		held(t, "whole", g, true)
		for length := 1; length < len(g); length++ {
			wrong(t, fmt.Sprint("its first ", length, " bytes"), g[:length])
		}
	}
}

func TestBytesBehind(t *testing.T) {
	for i, g := range some()[1:] {
		x, _ := model(g)
		for _, n := range []int{1, 2, 3, 4, 5, 100, 70000} {
			right(t, fmt.Sprint("glyph ", i, " and ", n, " bytes 0"), g+zeros(n), x.points, x.parts...)
			for _, at := range []int{0, 1, n / 2, n - 1} {
				if at < n {
					wrong(t, fmt.Sprint("glyph ", i, " and ", n, " bytes, not all 0"), turnedTo(g+zeros(n), len(g)+at, 1+(at+n)%255))
				}
			}
			wrong(t, fmt.Sprint("glyph ", i, ", bytes 0, then another"), g+zeros(n)+"\x80")
		}
		for b := 1; b < 256; b++ {
			wrong(t, fmt.Sprint("glyph ", i, " and a byte ", b), g+one(b))
			wrong(t, fmt.Sprint("glyph ", i, ", a byte 0 and a byte ", b), g+"\x00"+one(b))
			wrong(t, fmt.Sprint("glyph ", i, ", a byte ", b, " and a byte 0"), g+one(b)+"\x00")
		}
		wrong(t, "two glyphs", g+g)
	}
}

// The eight bytes behind the first two say nothing here.
func TestTheBox(t *testing.T) {
	for _, g := range some()[1:] {
		x, _ := model(g)
		for at := 2; at < 10; at++ {
			for _, b := range []int{0, 1, 127, 128, 255} {
				right(t, "another box", turnedTo(g, at, b), x.points, x.parts...)
			}
		}
	}
}

func TestNumbersOfComponents(t *testing.T) {
	for n := 1; n <= 70; n++ {
		l := upTo(1000, 999+n)
		g := chain(l...)
		if n <= 64 {
			right(t, fmt.Sprint(n, " components"), g, 0, l...)
		} else {
			wrong(t, fmt.Sprint(n, " components"), g)
		}
	}
	wrong(t, "none", "\xff\xffbox of 8")
	wrong(t, "65 of which the last is cut short", chain(upTo(1, 65)...)[:10+64*6+1])
	wrong(t, "64 and another to follow", chain(upTo(1, 65)...)[:10+64*6])
	wrong(t, "thousands", chain(upTo(1, 5000)...))
	right(t, "one of them many times", chain(slices.Repeat([]int{7}, 64)...), 0, slices.Repeat([]int{7}, 64)...)
	for _, n := range []int{0, 1, 255, 256, 257, 32767, 32768, 65279, 65280, 65534, 65535} {
		right(t, fmt.Sprint("the number ", n), chain(n), 0, n)
		right(t, fmt.Sprint("the number ", n, " and others"), chain(3, n, 4, n), 0, 3, n, 4, n)
	}
}

func TestFlagsOfComponents(t *testing.T) {
	size := func(f int) (int, bool) {
		n, kinds := 2, 0
		if f&1 != 0 {
			n = 4
		}
		for _, x := range [][2]int{{8, 2}, {64, 4}, {128, 8}} {
			if f&x[0] != 0 {
				n += x[1]
				kinds++
			}
		}
		return n, kinds <= 1
	}
	for f := range 65536 {
		n, ok := size(f)
		behind := ""
		if f&32 != 0 {
			behind = "\x00\x00\x00\x09ab"
		} else if f&256 != 0 {
			behind = "\x00\x01i"
		}
		g := made(behind, component{f, 5, bytes(n)})
		held(t, fmt.Sprintf("the flags %x", f), g, ok)
		if ok && (f < 512 || f%64 == 1) {
			want := []int{5}
			if f&32 != 0 {
				want = []int{5, 9}
			}
			right(t, fmt.Sprintf("the flags %x", f), g, 0, want...)
			wrong(t, fmt.Sprintf("the flags %x, cut short", f), g[:len(g)-1])
			wrong(t, fmt.Sprintf("the flags %x, a byte more", f), g+"a")
		}
	}
	for _, f := range []int{0, 1, 8, 64, 128, 1 + 8, 1 + 64, 1 + 128} {
		n, _ := size(f)
		right(t, fmt.Sprint("the flags ", f), made("", component{f, 5, bytes(n)}), 0, 5)
		right(t, fmt.Sprint("the flags ", f, " ahead of another"), made("", component{f | 32, 5, bytes(n)}, part(0, 6)), 0, 5, 6)
		right(t, fmt.Sprint("the flags ", f, " behind another"), made("", part(32, 6), component{f, 5, bytes(n)}), 0, 6, 5)
		wrong(t, fmt.Sprint("the flags ", f, ", a byte less"), made("", component{f, 5, bytes(n - 1)}))
		wrong(t, fmt.Sprint("the flags ", f, ", a byte more"), made("", component{f, 5, bytes(n + 1)}))
	}
	for _, f := range []int{8 + 64, 8 + 128, 64 + 128, 8 + 64 + 128} {
		for n := range 24 {
			wrong(t, fmt.Sprint("the flags ", f, " and ", n, " bytes"), made("", component{f, 5, zeros(n)}))
			wrong(t, fmt.Sprint("the flags ", f, " at a second component"), made("", part(32, 6), component{f, 5, zeros(n)}))
		}
	}
}

func TestInstructionsOfComponents(t *testing.T) {
	for _, n := range []int{0, 1, 2, 255, 256, 65535} {
		what := fmt.Sprint(n, " bytes of instructions")
		g := made(two(n)+bytes(n), part(256, 5))
		right(t, what, g, 0, 5)
		wrong(t, what+", a byte less", g[:len(g)-1])
		wrong(t, what+", a byte more", g+"\x01")
		right(t, what+", a byte 0 more", g+"\x00", 0, 5)
		right(t, what+" behind two", made(two(n)+bytes(n), part(32, 4), part(256, 5)), 0, 4, 5)
		right(t, what+", said of both", made(two(n)+bytes(n), part(256+32, 4), part(256, 5)), 0, 4, 5)
		if n > 0 {
			wrong(t, what+", not said", made(two(n)+bytes(n), part(0, 5)))
			wrong(t, what+", said of the first of two", made(two(n)+bytes(n), part(32+256, 4), part(0, 5)))
			wrong(t, what+", one more said", made(two(min(n+1, 65535))+bytes(min(n, 65534)), part(256, 5)))
		}
	}
	right(t, "said of the first of two, and none there", made("", part(32+256, 4), part(0, 5)), 0, 4, 5)
	right(t, "said of the first and the second of three", made("", part(32+256, 4), part(32+256, 5), part(0, 6)), 0, 4, 5, 6)
	wrong(t, "between two", made("", component{32 + 256, 4, "ab\x00\x02in"}, part(0, 5)))
	wrong(t, "said, and none there", made("", part(256, 5)))
	wrong(t, "said, and half a number there", made("\x00", part(256, 5)))
	right(t, "not said, and bytes 0 there", made("\x00\x00", part(0, 5)), 0, 5)
}

func TestAnotherComponentThatIsNotThere(t *testing.T) {
	wrong(t, "nothing behind", made("", part(32, 5)))
	wrong(t, "nothing behind two", made("", part(32, 5), part(32, 6)))
	right(t, "six bytes 0 behind", made(zeros(6), part(32, 5)), 0, 5, 0)
	right(t, "eight bytes 0 behind", made(zeros(8), part(32, 5)), 0, 5, 0)
	for n := 1; n < 6; n++ {
		wrong(t, fmt.Sprint(n, " bytes 0 behind"), made(zeros(n), part(32, 5)))
	}
	wrong(t, "instructions behind", made("\x00\x00", part(32+256, 5)))
}

// Each byte is turned to each other one.
func TestAllBytesTurned(t *testing.T) {
	taken, tried := 0, 0
	for i, g := range some() {
		for at := range min(len(g), 120) {
			for b := range 256 {
				tried++
				if alike(t, fmt.Sprint("glyph ", i, "'s byte at ", at, " as ", b), turnedTo(g, at, b)) {
					taken++
				}
			}
		}
	}
	if taken < tried/4 || taken > tried*9/10 {
		t.Errorf("%d of %d taken: too few of one kind", taken, tried)
	}
}

// chance is a glyph as if by chance, right or nearly so.
func chance(next func(int) int) string {
	if next(2) == 0 {
		var l []component
		for i, n := 0, 1+next(6); i < n; i++ {
			f := next(8) | []int{0, 8, 64, 128, 0, 8}[next(6)] | next(2)<<8 | next(2)<<9
			if i < n-1 {
				f |= 32
			}
			l = append(l, part(f, next(9)))
		}
		if l[len(l)-1].flags&256 != 0 {
			n := next(4)
			return made(two(n)+bytes(n)+zeros(next(3)), l...)
		}
		return made(zeros(next(3)), l...)
	}
	x := contours(slices.Repeat([]int{1}, 1+next(3))...).instructed(bytes(next(3)))
	p := x.ends[0] + 1 + next(4)
	for i := range x.ends {
		x.ends[i] = p - 1
		p += 1 + next(4)
	}
	p = x.ends[len(x.ends)-1] + 1
	x.flags, x.xs, x.ys = "", "", ""
	for p > 0 {
		f, n := next(256), 1
		x.flags += one(f)
		if f&8 != 0 {
			n += next(p)
			x.flags += one(n - 1)
		}
		p -= n
		x.xs += bytes(n * []int{2, 1, 0, 1}[f>>1&1|f>>4&1<<1])
		x.ys += bytes(n * []int{2, 1, 0, 1}[f>>2&1|f>>5&1<<1])
	}
	return x.text() + zeros(next(3))
}

func TestManyGlyphs(t *testing.T) {
	taken := 0
	for seed := range 30000 {
		next := numbers(seed)
		g := chance(next)
		if seed%3 == 0 {
			held(t, fmt.Sprint("seed ", seed), g, true)
		}
		for range next(3) {
			switch at := next(len(g)); next(4) {
			case 0:
				g = g[:at] + g[at+1:]
			case 1:
				g = g[:at] + one(next(256)) + g[at:]
			default:
				g = turnedTo(g, at, next(256))
			}
		}
		if alike(t, fmt.Sprint("seed ", seed), g) {
			taken++
		}
	}
	if taken < 10000 || taken > 25000 {
		t.Errorf("%d of 30000 taken: too few of one kind", taken)
	}
}

func TestLongGlyphs(t *testing.T) {
	long := 1 << 24
	right(t, "much behind", contours(1).text()+zeros(long), 1)
	right(t, "much behind components", chain(1, 2)+zeros(long), 0, 1, 2)
	wrong(t, "much behind, and a byte more", contours(1).text()+zeros(long)+"a")
	wrong(t, "bytes 0", zeros(long))
	wrong(t, "bytes 255", strings.Repeat("\xff", long))
	wrong(t, "bytes 1", strings.Repeat("\x01", long))
	wrong(t, "components without an end", "\xff\xffbox of 8"+strings.Repeat("\x00\x20\x00\x05ab", 1<<20))
	wrong(t, "flags without an end", contours(1).text()+strings.Repeat("\x37", long))
}
