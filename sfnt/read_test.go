package sfnt

import (
	"fmt"
	"math"
	"slices"
	"strings"
	"testing"

	"colophon/api"
)

// P8.2: ordinary files.

func TestOrdinaryFiles(t *testing.T) {
	right(t, "one table", "\x00\x01\x00\x00\x00\x01\x00\x10\x00\x00\x00\x00"+"abcdwxyz\x00\x00\x00\x1c\x00\x00\x00\x04"+"wxyz", table("abcd", "wxyz"))
	right(t, "one empty table", "\x00\x01\x00\x00\x00\x01\x00\x10\x00\x00\x00\x00"+"abcd\x00\x00\x00\x00\x00\x00\x00\x1c\x00\x00\x00\x00", table("abcd", ""))
	right(t, "two tables, the last not filled up", "\x00\x01\x00\x00\x00\x02\x00\x20\x00\x01\x00\x00"+
		"aaaaxy\x00\x00\x00\x00\x00\x2c\x00\x00\x00\x02"+"bbbb\x66\x32\x33\x34\x00\x00\x00\x30\x00\x00\x00\x05"+"xy\x00\x00"+"12345", table("aaaa", "xy"), table("bbbb", "12345"))
	for n := 1; n <= 32; n++ {
		right(t, fmt.Sprint(n, " tables"), drawn(many(n)...).text(), many(n)...)
	}
	l := tables(table("OS/2", strings.Repeat("o", 96)), table("cmap", "ccccccc"), table("glyf", strings.Repeat("\xff", 1000)), table("head", strings.Repeat("h", 54)), table("hhea", strings.Repeat("\x80", 36)), table("hmtx", "m"), table("loca", ""), table("maxp", "\x00\x01\x00\x00"))
	right(t, "a font's tables", drawn(l...).text(), l...)
	right(t, "what else the bytes may be", drawn(table("\x20\x20\x20\x20", "\x00"), table("\x20\x20\x20\x21", "\x00\x01"), table("\x7e\x7e\x7e\x7e", "\xff\xfe")).text(), table("    ", "\x00"), table("   !", "\x00\x01"), table("~~~~", "\xff\xfe"))
}

// Where tables stand is free: in any order, with anything between and behind.
func TestTablesStandAnywhere(t *testing.T) {
	l := tables(table("aaaa", "1"), table("bbbb", "22222"), table("cccc", "3333"))
	d := drawn(l...)
	d.bodies = "3333" + "junk" + "1xyz" + "more" + "junk" + "22222" + "behind"
	d.rows[0].place, d.rows[1].place, d.rows[2].place = 60+8, 60+20, 60
	right(t, "in another order", d.text(), l...)
	d.rows[2].place = 60 + 8
	d.rows[0].place = 60
	wrong(t, "each in another's place", d.text(), api.ErrSum)
	d = drawn(table("abcd", "x"))
	for _, filling := range []string{"", "\x00", "\x00\x00", "\x00\x00\x00", "\x01\x02\x03", "yyyyyyyyyyyyyy", strings.Repeat("\xff", 70000)} {
		d.bodies = "x" + filling
		right(t, "any filling", d.text(), table("abcd", "x"))
	}
}

// The first twelve bytes.

func TestTheFirstFourBytes(t *testing.T) {
	s := drawn(many(3)...).text()
	for at := range 4 {
		for b := range 256 {
			if x := turned(s, at, b); x != s {
				wrong(t, "the first four bytes", x, api.ErrTable)
			}
		}
	}
	for _, first := range []string{"true", "OTTO", "typ1", "ttcf", "\x00\x02\x00\x00", "\x00\x00\x01\x00"} {
		wrong(t, "another kind of font", first+s[4:], api.ErrTable)
	}
}

// Each count is tried with the numbers, the rows and the tables of its own.
func TestCounts(t *testing.T) {
	for _, n := range []int{0, 33, 34, 63, 64, 65, 256, 257, 4096, 32768, 65535} {
		d := drawn(many(min(n, 70))...)
		d.n, d.search = n, searching(max(n, 1))
		wrong(t, fmt.Sprint(n, " tables"), d.text(), api.ErrTable)
		wrong(t, fmt.Sprint(n, " tables, and much behind"), d.text()+strings.Repeat("\x00", 20000), api.ErrTable)
	}
	right(t, "1", drawn(many(1)...).text(), many(1)...)
	right(t, "32", drawn(many(32)...).text(), many(32)...)
	none := draft{first: "\x00\x01\x00\x00"}
	for _, search := range [][3]int{{}, {16, 0, 0}, {8, 0, 0}, {0, 0, 65520}, {16, 0, 65520}, {16, 65535, 65520}, {0, 65535, 0}} {
		none.search = search
		wrong(t, "no table", none.text(), api.ErrTable)
	}
	// Another number of rows than there are.
	for n := 1; n <= 32; n++ {
		for _, other := range []int{n - 1, n + 1, n + 256, n ^ 16} {
			d := drawn(many(n)...)
			d.n = other
			wrong(t, "n alone", d.text(), api.ErrTable)
			d.search = searching(max(other, 1))
			alike(t, d.text())
			alike(t, d.resum().text())
		}
	}
}

func TestTheNumbersBehindTheCount(t *testing.T) {
	for n := 1; n <= 32; n++ {
		want := searching(n)
		for i := range want {
			for _, other := range []int{want[i] - 1, want[i] + 1, want[i] - 16, want[i] + 16, want[i] ^ 256, want[i] * 2, want[i] / 2, 0, 1, 16, 32768, 65535, searching(min(n+1, 32))[i], searching(max(n-1, 1))[i], searching(32)[i]} {
				d := drawn(many(n)...)
				d.search[i] = other
				if other&0xffff != want[i] {
					wrong(t, fmt.Sprint(n, " tables, the number ", i), d.text(), api.ErrTable)
				}
			}
		}
		for other := 1; other <= 32; other++ {
			d := drawn(many(n)...)
			d.search = searching(other)
			if other != n {
				wrong(t, fmt.Sprint(n, " tables, the numbers of ", other), d.text(), api.ErrTable)
			}
		}
	}
}

func TestFilesThatEndTooSoon(t *testing.T) {
	for _, n := range []int{1, 2, 3, 32} {
		l := many(n)
		l[n-1].Data = "12345"
		s := drawn(l...).text()
		s = s[:len(s)-3]
		for length := range s {
			wrong(t, fmt.Sprint(length, " bytes of a file of ", n), s[:length], api.ErrTable)
		}
		right(t, "all of it", s, l...)
	}
	for n := 1; n <= 32; n++ {
		var l []api.Table
		for _, x := range many(n) {
			l = append(l, table(x.Tag, ""))
		}
		s := drawn(l...).text()
		right(t, "empty tables", s, l...)
		wrong(t, "a byte less than the directory", s[:len(s)-1], api.ErrTable)
		wrong(t, "a row less", s[:len(s)-16], api.ErrTable)
	}
	wrong(t, "nothing", "", api.ErrTable)
	for length := range 13 {
		wrong(t, "zeros", strings.Repeat("\x00", length), api.ErrTable)
	}
}

// Tags.

func TestTagsMustRise(t *testing.T) {
	for _, x := range []struct {
		a, b string
		ok   bool
	}{
		{"abcd", "abce", true}, {"abce", "abcd", false}, {"abcd", "abcd", false}, {"abcd", "abdc", true}, {"abdc", "abcd", false}, {"Zzzz", "aaaa", true}, {"aaaa", "Zzzz", false},
		{"a~~~", "b   ", true}, {"b   ", "a~~~", false}, {"    ", "   !", true}, {"~~~}", "~~~~", true}, {"~~~~", "~~~}", false}, {"baaa", "abbb", false}, {"aaab", "aaba", true}, {"aaba", "aaab", false}, {"head", "hhea", true}, {"hhea", "head", false},
	} {
		l := tables(table(x.a, "1"), table(x.b, "22"))
		s := drawn(l...).text()
		if x.ok {
			right(t, x.a+" "+x.b, s, l...)
		} else {
			wrong(t, x.a+" "+x.b, s, api.ErrTable)
		}
	}
	for n := 2; n <= 32; n++ {
		for i := 1; i < n; i++ {
			l := many(n)
			l[i].Tag = l[i-1].Tag
			wrong(t, "two that are the same", drawn(l...).text(), api.ErrTable)
			l = many(n)
			l[i-1], l[i] = l[i], l[i-1]
			wrong(t, "two that fall", drawn(l...).text(), api.ErrTable)
			l = many(n)
			l[0], l[i] = l[i], l[0]
			wrong(t, "two that fall, further apart", drawn(l...).text(), api.ErrTable)
		}
	}
}

func TestTheBytesOfTags(t *testing.T) {
	for at := range 4 {
		for b := range 256 {
			l := tables(table(turned("good", at, b), "xyz"))
			good := b >= 32 && b <= 126
			if s := drawn(l...).text(); good {
				right(t, "a tag", s, l...)
			} else {
				wrong(t, fmt.Sprint("a tag with the byte ", b), s, api.ErrTable)
			}
		}
		// With others around it, so that the tags rise all the same.
		for b, good := range map[int]bool{31: false, 32: true, 126: true, 127: false} {
			for _, tag := range []string{"    ", "  ~ ", "nnnn", "~ ~ ", "~~~~"} {
				l := tables(table("  ! ", "1"), table("mmmm", "22"), table("ooo~", "333"), table(turned(tag, at, b), "4444"))
				l = byTags(l)
				if s := drawn(l...).text(); good {
					right(t, "a tag", s, l...)
				} else {
					wrong(t, fmt.Sprint("a tag with the byte ", b), s, api.ErrTable)
				}
			}
		}
	}
	for _, tag := range []string{"\x00\x00\x00\x00", "\xff\xff\xff\xff", "\x1f\x1f\x1f\x1f", "\x7f\x7f\x7f\x7f"} {
		wrong(t, "a tag alone", drawn(table(tag, "a")).text(), api.ErrTable)
	}
}

// Places and lengths.

func TestPlaces(t *testing.T) {
	for n := 1; n <= 32; n++ {
		from, end := 12+16*n, 12+16*n+8*n
		wrongs := []int{0, 4, 12, from - 16, from - 4, from - 1, from + 1, from + 2, from + 3, end + 4, end + 400, 1 << 20, 1 << 31, 1<<31 + from, 1<<32 - 16, 1<<32 - 4, 1<<32 - 1}
		for i := range n {
			d := drawn(fives(n)...)
			d.rows[i].length, d.rows[i].sum = 0, 0
			for _, place := range []int{from, from + 4, end - 4, end} {
				d.rows[i].place = place
				l := fives(n)
				l[i].Data = ""
				right(t, fmt.Sprint(n, " tables, an empty one at ", place), d.text(), l...)
			}
			for _, place := range wrongs {
				d.rows[i].place = place
				wrong(t, fmt.Sprint(n, " tables, an empty one at ", place), d.text(), api.ErrTable)
			}
		}
	}
}

// fives are so many tables of five bytes each.
func fives(n int) []api.Table {
	l := many(n)
	for i := range l {
		l[i].Data = "12345"
	}
	return l
}

func TestPlacesThatAreNoMultiplesOfFour(t *testing.T) {
	for place := 28; place < 60; place++ {
		for _, length := range []int{0, 1, 4, 60 - place} {
			d := drawn(table("abcd", ""))
			d.bodies = strings.Repeat("12345678", 4)
			d.rows[0].place, d.rows[0].length = place, min(length, 60-place)
			s := d.resum().text()
			if place%4 == 0 {
				right(t, fmt.Sprint("the place ", place), s, table("abcd", s[place:][:min(length, 60-place)]))
			} else {
				wrong(t, fmt.Sprint("the place ", place), s, api.ErrTable)
			}
		}
	}
}

func TestPlaceAndLengthTogether(t *testing.T) {
	for _, behind := range []int{0, 1, 2, 3, 4, 5, 100, 4099} {
		size := 28 + behind
		for place := 28; place <= size+8; place += 4 {
			for _, more := range []int{-2, -1, 0, 1, 2, 3, 4, 256, 1 << 16} {
				d := drawn(table("abcd", ""))
				d.bodies = strings.Repeat("b", behind)
				d.rows[0].place, d.rows[0].length = place, size-place+more
				if d.rows[0].length < 0 {
					continue
				}
				s := d.resum().text()
				if more <= 0 {
					right(t, fmt.Sprint(behind, " bytes, ", place, " and ", d.rows[0].length), s, table("abcd", strings.Repeat("b", d.rows[0].length)))
				} else {
					wrong(t, fmt.Sprint(behind, " bytes, ", place, " and ", d.rows[0].length), s, api.ErrTable)
				}
			}
		}
	}
}

// Numbers of four bytes from 2^31 on are above all places; none is below 0, and
// no two of them add up to a small one.
func TestGreatNumbers(t *testing.T) {
	great := []int{1 << 31, 1<<31 + 4, 1<<31 + 28, 1<<32 - 1, 1<<32 - 4, 1<<32 - 8, 1<<32 - 28, 1<<32 - 32, math.MaxInt32, math.MaxInt32 - 3, 1 << 24, 1 << 20}
	base := drawn(table("aaaa", "1234"), table("bbbb", "5678"))
	for i := range 2 {
		for _, x := range great {
			for _, y := range append([]int{0, 1, 4, 28, 44, 48, 1<<32 - x, 1<<32 - x + 44, 1<<32 - x + 48}, great...) {
				for _, swap := range []bool{false, true} {
					d := base
					d.rows = slices.Clone(base.rows)
					d.rows[i].place, d.rows[i].length = x, y
					if swap {
						d.rows[i].place, d.rows[i].length = y, x
					}
					wrong(t, fmt.Sprint(d.rows[i]), d.text(), api.ErrTable)
				}
			}
		}
	}
	// A sum may be as great.
	for _, data := range []string{"\x80\x00\x00\x00", "\xff\xff\xff\xff", "\xff", "\x80", "\x7f\xff\xff\xff"} {
		right(t, "a great sum", drawn(table("abcd", data)).text(), table("abcd", data))
	}
}

// Tables that touch, and that share a byte.

func TestTwoStretches(t *testing.T) {
	const bodies = "0123456789abcdef0123456789ab"
	met, apart := 0, 0
	for a := 0; a <= 28; a += 4 {
		for b := 0; b <= 28; b += 4 {
			for long := range 28 - a + 1 {
				for other := range 28 - b + 1 {
					d := drawn(table("aaaa", ""), table("bbbb", ""))
					d.bodies = bodies
					d.rows[0].place, d.rows[0].length = 44+a, long
					d.rows[1].place, d.rows[1].length = 44+b, other
					s := d.resum().text()
					common := false
					for i := range bodies {
						common = common || i >= a && i < a+long && i >= b && i < b+other
					}
					if common {
						met++
						wrong(t, fmt.Sprint(d.rows), s, api.ErrTable)
					} else {
						apart++
						right(t, fmt.Sprint(d.rows), s, table("aaaa", bodies[a:a+long]), table("bbbb", bodies[b:b+other]))
					}
				}
			}
		}
	}
	if met < 5000 || apart < 3000 {
		t.Errorf("%d with a byte in common, %d without", met, apart)
	}
}

// Any two of many rows may be the ones that share a byte.
func TestTwoOfManyStretches(t *testing.T) {
	for _, n := range []int{2, 3, 5, 17, 32} {
		l := fives(n)
		right(t, "apart", drawn(l...).text(), l...)
		for i := range n {
			for j := range n {
				if i == j {
					continue
				}
				d := drawn(l...)
				d.rows[i].place = d.rows[j].place
				wrong(t, "at one place", d.text(), api.ErrTable)
				d = drawn(l...)
				d.rows[i].place = d.rows[j].place + 4
				d.rows[i].length = 1
				wrong(t, "the last byte", d.resum().text(), api.ErrTable)
				d.rows[i].length = 0
				if alike(t, d.resum().text()) != api.OK {
					t.Error("an empty table within another is refused")
				}
				d.rows[i].place = d.rows[j].place
				if alike(t, d.resum().text()) != api.OK {
					t.Error("an empty table at the place of another is refused")
				}
			}
		}
	}
	// All tables may be empty, at one place.
	d := drawn(many(32)...)
	for i := range d.rows {
		d.rows[i].place, d.rows[i].length = 12+16*32+8, 0
	}
	if alike(t, d.resum().text()) != api.OK {
		t.Error("32 empty tables at one place are refused")
	}
}

// Sums.

func TestSumsThatAreWrong(t *testing.T) {
	for _, n := range []int{1, 2, 5, 32} {
		for i := range n {
			for _, by := range []int{1, -1, 256, 65536, 1 << 24, 1 << 31, -1 << 31} {
				d := drawn(many(n)...)
				d.rows[i].sum += by
				wrong(t, fmt.Sprint("wrong by ", by), d.text(), api.ErrSum)
			}
		}
	}
	for length := range 12 {
		data := strings.Repeat("\x01\x02\x03\x04", 3)[:length]
		right(t, "a right sum", drawn(table("abcd", data)).text(), table("abcd", data))
		s := drawn(table("abcd", data)).text()
		for at := range length {
			wrong(t, "a byte turned", turned(s, 28+at, 99), api.ErrSum)
		}
		for at := 28 + length; at < len(s); at++ {
			right(t, "a filling byte turned", turned(s, at, 99), table("abcd", data))
		}
	}
}

// Of a row whose sum is wrong and another that may not stand there, it is ErrTable.
func TestTheOrderOfErrors(t *testing.T) {
	n := 5
	for i := range n {
		for j := range n {
			for what, spoil := range map[string]func(d *draft){
				"no multiple of 4": func(d *draft) { d.rows[j].place++ },
				"too low":          func(d *draft) { d.rows[j].place = 12 + 16*n - 4 },
				"too high":         func(d *draft) { d.rows[j].place += 1 << 20 },
				"too long":         func(d *draft) { d.rows[j].length += 1 << 20 },
				"shared":           func(d *draft) { d.rows[j].place = d.rows[(j+1)%n].place },
				"no tag":           func(d *draft) { d.rows[j].tag = "\x7f\x7f\x7f\x7f" },
				"the same tag":     func(d *draft) { d.rows[j].tag = d.rows[(j+1)%n].tag },
				"too soon":         func(d *draft) { d.bodies = d.bodies[:len(d.bodies)-5] },
				"n":                func(d *draft) { d.n++ },
				"the first bytes":  func(d *draft) { d.first = "OTTO" },
				"the last number":  func(d *draft) { d.search[2]++ },
			} {
				d := drawn(fives(n)...)
				d.rows[i].sum++
				wrong(t, "the sum alone", d.text(), api.ErrSum)
				spoil(&d)
				wrong(t, fmt.Sprint("a wrong sum of ", i, ", and of ", j, ": ", what), d.text(), api.ErrTable)
				wrong(t, "and too long", d.text()+strings.Repeat("a", api.MaxBytes), api.ErrLong)
			}
		}
	}
}

func TestHeadsSum(t *testing.T) {
	numbers := []string{"\x00\x00\x00\x00", "\xff\xff\xff\xff", "\x00\x00\x00\x01", "\x80\x00\x00\x00", "abcd", "\xb1\xb0\xaf\xba"}
	for length := range 60 {
		for _, number := range numbers {
			data := (strings.Repeat("h", 8) + number + strings.Repeat("\x91", 48))[:length]
			l := tables(table("glyf", "ggg"), table("head", data), table("maxp", "m"))
			d := drawn(l...)
			right(t, fmt.Sprint("a head of ", length), d.text(), l...)
			plain := modelSum(data)
			if length >= 12 {
				plain = (plain - at4(data, 8) + 1<<32) % (1 << 32)
			}
			if d.rows[1].sum != plain {
				t.Fatalf("%d bytes: %x, %x", length, d.rows[1].sum, plain)
			}
			// The sum with the number is wrong, just if there is a number.
			d.rows[1].sum = modelSum(data)
			if length >= 12 && number != numbers[0] {
				wrong(t, fmt.Sprint("a head of ", length, ", its number added"), d.text(), api.ErrSum)
			} else {
				right(t, fmt.Sprint("a head of ", length), d.text(), l...)
			}
			d.rows[1].sum = plain + 1
			wrong(t, "wrong by one", d.text(), api.ErrSum)
		}
	}
	// Each byte of head has its weight but those four.
	for _, length := range []int{9, 11, 12, 13, 16, 54} {
		s := drawn(table("head", strings.Repeat("h", length))).text()
		for at := range length {
			_, err := Read(turned(s, 28+at, 'i'))
			if free := length >= 12 && at >= 8 && at < 12; free != (err == api.OK) || !free && err != api.ErrSum {
				t.Errorf("the byte %d of %d turned: %v", at, length, err)
			}
		}
	}
	// Tables that are nearly called so have no such number.
	for _, tag := range []string{"Head", "hea ", "heae", "hebd", "iead", "hhea"} {
		s := drawn(table(tag, strings.Repeat("h", 20))).text()
		for at := range 20 {
			wrong(t, tag, turned(s, 28+at, 'i'), api.ErrSum)
		}
	}
}

// Limits.

func TestTheLongestText(t *testing.T) {
	for n := 1; n <= 32; n += 31 {
		l := many(n)
		l[n-1].Data = ""
		room := api.MaxBytes - len(drawn(l...).text())
		for _, less := range []int{0, 1, 2, 3, 4, 5} {
			l[n-1].Data = strings.Repeat("\xfe", room-less)
			s := drawn(l...).text()
			right(t, "the longest", s, l...)
			whole := s + strings.Repeat("\x00", api.MaxBytes-len(s))
			right(t, "the longest, filled up", whole, l...)
			wrong(t, "a byte more", whole+"\x00", api.ErrLong)
			wrong(t, "a byte of it turned", turned(whole, 12+16*n, 1+int(whole[12+16*n])), api.ErrSum)
		}
	}
	for _, length := range []int{api.MaxBytes + 1, api.MaxBytes + 2, 2 * api.MaxBytes, 1 << 24} {
		wrong(t, "too long", strings.Repeat("a", length), api.ErrLong)
		wrong(t, "a good file, and too much behind it", drawn(many(3)...).text()+strings.Repeat("a", length), api.ErrLong)
	}
	wrong(t, "as long as may be, but no file", strings.Repeat("a", api.MaxBytes), api.ErrTable)
	right(t, "much behind it", drawn(many(3)...).text()+strings.Repeat("a", api.MaxBytes-1000), many(3)...)
}

// All else.

func TestEachByteTurnedLeftOutAndPutIn(t *testing.T) {
	for _, l := range [][]api.Table{tables(table("abcd", "x")), tables(table("abcd", "x"), table("bbbb", "1234")), tables(table("cmap", "12345"), table("head", "0123456789abcdef"), table("loca", "")), many(7)} {
		s := built(t, l)
		alike(t, s)
		for at := range s {
			for b := range 256 {
				alike(t, turned(s, at, b))
			}
			alike(t, s[:at]+s[at+1:])
			for _, b := range []string{"\x00", "\x01", " ", "a", "\xff"} {
				alike(t, s[:at]+b+s[at:])
			}
		}
	}
}

// Files put together of numbers that are mostly as they should be.
func TestManyFiles(t *testing.T) {
	count := map[api.Errno]int{}
	for seed := range 40000 {
		next := numbers(seed)
		n := 1 + next(4)
		d := drawn(many(n)...)
		d.bodies = strings.Repeat("\x00\x01\xff\x80", 12)[:next(48)]
		for i := range d.rows {
			d.rows[i].tag = []string{"aaaa", "bbbb", "head", "heae", "zzzz"}[(i+next(2)+next(20)/19)%5]
			d.rows[i].place = 12 + 16*n + 4*next(9)
			d.rows[i].length = next(2) * next(16)
			if next(16) == 0 {
				d.rows[i].place += next(9) - 4
			}
		}
		d = d.resum()
		if next(6) == 0 {
			d.rows[next(n)].sum += next(3) - 1
		}
		s := d.text()
		if next(3) == 0 && len(s)%4 == 0 {
			s += four(0xb1b0afba - modelSum(s))
		}
		count[alike(t, s)]++
	}
	if count[api.OK] < 3000 || count[api.ErrTable] < 3000 || count[api.ErrSum] < 300 {
		t.Errorf("too few of one kind: %v", count)
	}
}
