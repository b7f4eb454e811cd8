package metrics

import (
	"fmt"
	"slices"
	"strings"
	"testing"

	"colophon/api"
	"colophon/sfnt"
)

// P9.1

func TestOrdinaryFonts(t *testing.T) {
	l := []api.Table{
		{Tag: "cmap", Data: "of no weight"},
		{Tag: "head", Data: "\x00\x01\x00\x00" + "\x00\x02\x80\x00" + "\x12\x34\x56\x78" + "\x5f\x0f\x3c\xf5" + "\x00\x0b" + "\x08\x00" + "\x00\x00\x00\x00\xc9\x00\x01\x02" + "\x00\x00\x00\x00\xc9\x00\x01\x03" + "\xff\x38\xfe\xd4\x03\xe8\x07\x6c" + "\x00\x00\x00\x08" + "\x00\x02" + "\x00\x01" + "\x00\x00"},
		{Tag: "hhea", Data: "\x00\x01\x00\x00" + "\x07\x6d" + "\xfe\x53" + "\x00\x5c" + "\x04\xb0" + "\xff\x38\xff\x9c\x04\x4c\x00\x01\x00\x00\x00\x00" + zeros(8) + "\x00\x00" + "\x00\x02"},
		{Tag: "hmtx", Data: "\x04\xb0\x00\x64" + "\x02\x58\xff\xce" + "\x00\x32" + "\xff\xff"},
		{Tag: "maxp", Data: "\x00\x01\x00\x00" + "\x00\x04" + zeros(26)},
	}
	right(t, "a font", l, api.Metrics{Upem: 2048, Ascent: 1901, Descent: -429, Gap: 92, Box: [4]int{-200, -300, 1000, 1900}, Long: true, Advance: []int{1200, 600, 600, 600}, Bearing: []int{100, -50, 50, -1}})
	for _, n := range []int{1, 2, 3, 10, 255, 256, 257, 4095, 4096} {
		for _, h := range []int{1, 2, n / 2, n - 1, n} {
			if h >= 1 && h <= n {
				held(t, fmt.Sprint(n, " glyphs, ", h, " advances"), simple(n, h), true)
			}
		}
	}
}

func TestTablesThatAreNotThere(t *testing.T) {
	wrong(t, "nil", nil)
	wrong(t, "none", []api.Table{})
	l := simple(3, 2).tables()
	for i := range l {
		wrong(t, "without "+l[i].Tag, slices.Delete(slices.Clone(l), i, i+1))
		wrong(t, l[i].Tag+" alone", l[i:i+1])
		for _, tag := range []string{"", l[i].Tag[:3], l[i].Tag + " ", l[i].Tag + "\x00", strings.ToUpper(l[i].Tag), l[i].Tag[1:] + "x", l[(i+1)%4].Tag} {
			other := slices.Clone(l)
			other[i].Tag = tag
			wrong(t, l[i].Tag+" as "+tag, other)
		}
	}
	for i := range l {
		for j := range i {
			wrong(t, "two of them", []api.Table{l[i], l[j]})
		}
	}
}

// The first table with a tag holds, right or wrong.
func TestTablesThatStandTwice(t *testing.T) {
	one := simple(3, 2)
	two := simple(2, 1)
	two.upem, two.box, two.long, two.asc, two.desc, two.gap = 2048, [4]int{9, 8, -7, -6}, 1, 1, 2, 3
	two.advance, two.bearing, two.behind = []int{100}, []int{5}, []int{-7}
	a, b := one.tables(), two.tables()
	b = with(b, "hmtx", data(b, "hmtx")+"enough for the other")
	for _, tag := range tags {
		i := find(a, tag)
		behind, ahead := append(slices.Clone(a), b[i]), append([]api.Table{b[i]}, a...)
		right(t, "a second "+tag, behind, one.told())
		instead := slices.Clone(a)
		instead[i] = b[i]
		want, ok := modelRead(instead)
		if !ok {
			t.Fatalf("%s of the other font is refused", tag)
		}
		right(t, "another "+tag+" ahead", ahead, want)
		if same(want, one.told()) {
			t.Errorf("%s says the same in both fonts", tag)
		}
		bad := api.Table{Tag: tag}
		right(t, "a second, empty "+tag, append(slices.Clone(a), bad), one.told())
		wrong(t, "an empty "+tag+" ahead", append([]api.Table{bad}, a...))
		wrong(t, "an empty "+tag+" between", slices.Insert(slices.Clone(a), i, bad))
	}
	right(t, "one font behind the other", slices.Concat(a, b), one.told())
	right(t, "the other way round", slices.Concat(b, a), two.told())
}

func TestAnyOrderOfTables(t *testing.T) {
	f := simple(5, 3)
	l := f.tables()
	count := 0
	var orders func(taken []api.Table)
	orders = func(taken []api.Table) {
		if len(taken) == len(l) {
			count++
			right(t, "in some order", taken, f.told())
			right(t, "with others between", slices.Concat([]api.Table{{}}, taken[:2], []api.Table{{Tag: "glyf", Data: "x"}, {Tag: "HEAD", Data: "y"}}, taken[2:], make([]api.Table, 40)), f.told())
		}
		for _, x := range l {
			if !slices.Contains(taken, x) {
				orders(append(slices.Clone(taken), x))
			}
		}
	}
	orders(nil)
	if count != 24 {
		t.Errorf("%d orders", count)
	}
}

func TestLengthsOfTables(t *testing.T) {
	for _, f := range []font{simple(1, 1), simple(3, 2), simple(300, 1)} {
		l, want := f.tables(), f.told()
		for tag, size := range map[string]int{"maxp": 6, "head": 54, "hhea": 36, "hmtx": len(f.hmtx())} {
			full := data(l, tag)
			if len(full) != size {
				t.Fatalf("%s has %d bytes", tag, len(full))
			}
			right(t, tag+" just long enough", l, want)
			for length := range size {
				wrong(t, fmt.Sprint(tag, " of ", length, " bytes"), with(l, tag, full[:length]))
			}
			for _, more := range []string{"\x00", "\xff", "\x00\x00", "abc", zeros(26), strings.Repeat("\xff", 4096), strings.Repeat("\x01", api.MaxBytes)} {
				right(t, fmt.Sprint(tag, " with ", len(more), " bytes more"), with(l, tag, full+more), want)
			}
		}
	}
}

// named are the bytes of each table of which the Words speak.
var named = map[string][][2]int{ // from, to (not taken in)
	"maxp": {{0, 6}},
	"head": {{0, 4}, {12, 16}, {18, 20}, {36, 44}, {50, 54}},
	"hhea": {{0, 4}, {4, 10}, {32, 36}},
	"hmtx": {{0, 4*2 + 2}},
}

func isNamed(tag string, at int) bool {
	return slices.ContainsFunc(named[tag], func(x [2]int) bool { return at >= x[0] && at < x[1] })
}

func TestBytesThatTheWordsDoNotName(t *testing.T) {
	f := simple(3, 2)
	l, want := f.tables(), f.told()
	for i := range l {
		l[i].Data += "\x00\x01\x02\x03"
	}
	for _, tag := range tags {
		free := 0
		for at := range len(data(l, tag)) {
			if isNamed(tag, at) {
				continue
			}
			free++
			for b := range 256 {
				right(t, fmt.Sprint(tag, "'s byte at ", at), turned(l, tag, at, string([]byte{byte(b)})), want)
			}
		}
		if asked := map[string]int{"maxp": 4, "head": 54 - 4 - 4 - 2 - 8 - 4 + 4, "hhea": 36 - 10 - 4 + 4, "hmtx": 4}[tag]; free != asked {
			t.Errorf("%s has %d free bytes; asked: %d", tag, free, asked)
		}
	}
	for _, b := range []byte{0, 1, 0x7f, 0x80, 0xff} {
		all := slices.Clone(l)
		for i, x := range all {
			d := []byte(x.Data)
			for at := range d {
				if !isNamed(x.Tag, at) {
					d[at] = b
				}
			}
			all[i].Data = string(d)
		}
		right(t, fmt.Sprint("all free bytes are ", b), all, want)
	}
}

// Each byte is turned to each other one.
func TestAllBytesTurned(t *testing.T) {
	for _, f := range []font{simple(1, 1), simple(2, 1), simple(3, 2), simple(258, 256)} {
		l := f.tables()
		taken, all := 0, 0
		for _, x := range l {
			for at := range min(len(x.Data), 60) {
				for b := range 256 {
					all++
					if alike(t, fmt.Sprint(x.Tag, "'s byte at ", at), turned(l, x.Tag, at, string([]byte{byte(b)}))) {
						taken++
					}
				}
			}
		}
		if taken < all/3 || taken > all*9/10 {
			t.Errorf("%d of %d taken: too few of one kind", taken, all)
		}
	}
}

// What must stand there stands there to the bit.
func TestBytesThatMustBe(t *testing.T) {
	l := simple(3, 2).tables()
	for tag, places := range map[string][]int{"maxp": {0, 1, 2, 3}, "head": {0, 1, 2, 3, 12, 13, 14, 15, 50, 52, 53}, "hhea": {0, 1, 2, 3, 32, 33}} {
		for _, at := range places {
			was := data(l, tag)[at]
			for b := range 256 {
				if byte(b) != was {
					wrong(t, fmt.Sprint(tag, "'s byte at ", at, " as ", b), turned(l, tag, at, string([]byte{byte(b)})))
				}
			}
		}
	}
}

func TestMaxp(t *testing.T) {
	for first, ok := range map[string]bool{
		"\x00\x00\x50\x00": true, "\x00\x01\x00\x00": true,
		"\x00\x00\x00\x00": false, "\x00\x00\x50\x01": false, "\x00\x01\x50\x00": false, "\x00\x00\x00\x50": false, "\x00\x50\x00\x00": false, "\x50\x00\x00\x00": false, "\x01\x00\x00\x00": false, "\x00\x02\x00\x00": false, "\x00\x01\x00\x01": false, "\x00\x01\x01\x00": false, "\x01\x01\x00\x00": false, "\x00\x00\x51\x00": false, "\x00\x00\x05\x00": false, "\xff\xff\xff\xff": false, "OTTO": false, "true": false,
	} {
		f := simple(3, 2)
		f.maxpFirst = first
		held(t, fmt.Sprintf("maxp begins with %+q", first), f, ok)
	}
	for at := range 4 {
		for b := range 256 {
			l := turned(with(simple(3, 2).tables(), "maxp", "\x00\x00\x50\x00\x00\x03"), "maxp", at, string([]byte{byte(b)}))
			alike(t, "half a version", l)
		}
	}
	for n, ok := range map[int]bool{0: false, 1: true, 2: true, 255: true, 256: true, 4095: true, 4096: true, 4097: false, 8192: false, 32767: false, 32768: false, 65535: false} {
		f := simple(n, 1)
		held(t, fmt.Sprint(n, " glyphs, one advance"), f, ok)
		f = simple(n, max(n, 1))
		held(t, fmt.Sprint(n, " glyphs with advances"), f, ok)
	}
	none := simple(0, 0)
	wrong(t, "no glyph and no advance", none.tables())
}

func TestHead(t *testing.T) {
	l := simple(3, 2).tables()
	for upem := range 65536 {
		f := simple(1, 1)
		f.upem = upem
		held(t, fmt.Sprint("Upem ", upem), f, upem >= 16 && upem <= 16384)
	}
	for long := range 65536 {
		f := simple(1, 1)
		f.long = long
		held(t, fmt.Sprint("[50] is ", long), f, long <= 1)
		f = simple(1, 1)
		f.format = long
		held(t, fmt.Sprint("[52] is ", long), f, long == 0)
	}
	for long, want := range map[string]bool{"\x00\x00": false, "\x00\x01": true} {
		if m, err := Read(turned(l, "head", 50, long)); m.Long != want || err != api.OK {
			t.Errorf("[50] is %q: %v, %v", long, m.Long, err)
		}
	}
	for _, long := range []string{"\x00\x02", "\x01\x00", "\x01\x01", "\xff\xff", "\x80\x00"} {
		wrong(t, "another form of loca", turned(l, "head", 50, long))
	}
	for _, magic := range []string{"\x00\x00\x00\x00", "\xf5\x3c\x0f\x5f", "\x5f\x0f\x3c\xf4", "\x5f\x0f\x3d\xf5", "\x5f\x0e\x3c\xf5", "\x5e\x0f\x3c\xf5", "\x0f\x5f\xf5\x3c"} {
		wrong(t, "another magic", turned(l, "head", 12, magic))
	}
	// The bytes that must be, a place further on or back.
	wrong(t, "the magic too soon", turned(l, "head", 11, "\x5f\x0f\x3c\xf5\x5f"))
	wrong(t, "the magic too late", turned(l, "head", 12, "\x5f\x5f\x0f\x3c\xf5"))
}

func TestHhea(t *testing.T) {
	for _, n := range []int{1, 2, 3, 255, 256, 257, 4095, 4096} {
		for _, h := range []int{0, 1, 2, n / 2, n - 1, n, n + 1, n + 2, n + 256, 2 * n, 4097, 32768, 65535} {
			f := simple(n, h)
			held(t, fmt.Sprint(n, " glyphs, ", h, " advances"), f, h >= 1 && h <= n)
		}
	}
	for widths := range 65536 {
		f := simple(1, 1)
		f.widths = widths
		held(t, fmt.Sprint("[32] is ", widths), f, widths == 0)
	}
	// Enough of everything behind, so that no other table is at fault.
	l := with(simple(1, 1).tables(), "hmtx", zeros(4*65536))
	for _, h := range []int{0, 2, 3, 255, 256, 257, 32767, 32768, 65535} {
		wrong(t, fmt.Sprint("one glyph, ", h, " advances"), turned(l, "hhea", 34, two(h)))
	}
}

func TestHmtxLengths(t *testing.T) {
	for _, n := range []int{1, 2, 3, 7, 256, 4096} {
		for _, h := range []int{1, 2, n / 2, n - 1, n} {
			if h < 1 || h > n {
				continue
			}
			f := simple(n, h)
			l, full := f.tables(), f.hmtx()
			if len(full) != 4*h+2*(n-h) {
				t.Fatalf("%d glyphs, %d advances: %d bytes", n, h, len(full))
			}
			what := fmt.Sprint(n, " glyphs, ", h, " advances: ")
			right(t, what+"just enough", l, f.told())
			right(t, what+"one more", with(l, "hmtx", full+"\x00"), f.told())
			for _, less := range []int{1, 2, 3, 4} {
				wrong(t, what+"less", with(l, "hmtx", full[:len(full)-less]))
			}
			wrong(t, what+"empty", with(l, "hmtx", ""))
		}
	}
}

// Each field's number is tried with all its values.
func TestNumbersOfTwoBytes(t *testing.T) {
	signed := func(x int) int {
		if x > 32767 {
			return x - 65536
		}
		return x
	}
	base := simple(4, 2)
	l := base.tables()
	for _, x := range []struct {
		what, tag string
		at        int
		set       func(m *api.Metrics, x int)
	}{
		{"Box 0", "head", 36, func(m *api.Metrics, x int) { m.Box[0] = signed(x) }},
		{"Box 1", "head", 38, func(m *api.Metrics, x int) { m.Box[1] = signed(x) }},
		{"Box 2", "head", 40, func(m *api.Metrics, x int) { m.Box[2] = signed(x) }},
		{"Box 3", "head", 42, func(m *api.Metrics, x int) { m.Box[3] = signed(x) }},
		{"Ascent", "hhea", 4, func(m *api.Metrics, x int) { m.Ascent = signed(x) }},
		{"Descent", "hhea", 6, func(m *api.Metrics, x int) { m.Descent = signed(x) }},
		{"Gap", "hhea", 8, func(m *api.Metrics, x int) { m.Gap = signed(x) }},
		{"the first Advance", "hmtx", 0, func(m *api.Metrics, x int) { m.Advance[0] = x }},
		{"the first Bearing", "hmtx", 2, func(m *api.Metrics, x int) { m.Bearing[0] = signed(x) }},
		{"the last Advance of its own", "hmtx", 4, func(m *api.Metrics, x int) { m.Advance[1], m.Advance[2], m.Advance[3] = x, x, x }},
		{"its Bearing", "hmtx", 6, func(m *api.Metrics, x int) { m.Bearing[1] = signed(x) }},
		{"a Bearing alone", "hmtx", 8, func(m *api.Metrics, x int) { m.Bearing[2] = signed(x) }},
		{"the last Bearing", "hmtx", 10, func(m *api.Metrics, x int) { m.Bearing[3] = signed(x) }},
	} {
		try := func(n int) {
			want := base.told()
			x.set(&want, n)
			right(t, fmt.Sprint(x.what, " as ", n), turned(l, x.tag, x.at, two(n)), want)
		}
		for _, n := range []int{0, 1, 255, 256, 32766, 32767, 32768, 32769, 65279, 65280, 65534, 65535} {
			try(n)
		}
		for n := 0; n < 65536; n += 13 {
			try(n)
		}
	}
	for n, want := range map[int]int{32767: 32767, 32768: -32768, 65535: -1} {
		m, _ := Read(turned(turned(turned(l, "hhea", 4, two(n)), "hmtx", 10, two(n)), "hmtx", 4, two(n)))
		if m.Ascent != want || m.Bearing[3] != want || m.Advance[3] != n {
			t.Errorf("%d: Ascent %d, Bearing %d, Advance %d", n, m.Ascent, m.Bearing[3], m.Advance[3])
		}
	}
}

func TestGlyphsBehindTheAdvances(t *testing.T) {
	l := with(simple(6, 2).tables(), "hmtx", "\x00\x01\x00\x02"+"\xff\xfe\x80\x00"+"\x7f\xff"+"\x80\x01"+"\x00\x00"+"\xff\xff")
	m, err := Read(l)
	if err != api.OK || !slices.Equal(m.Advance, []int{1, 65534, 65534, 65534, 65534, 65534}) || !slices.Equal(m.Bearing, []int{2, -32768, 32767, -32767, 0, -1}) {
		t.Errorf("%v, %v", m, err)
	}
	f := simple(4096, 1)
	f.advance[0] = 40000
	m, err = Read(f.tables())
	if err != api.OK || len(m.Advance) != 4096 || len(m.Bearing) != 4096 || slices.Min(m.Advance) != 40000 || slices.Max(m.Advance) != 40000 || m.Bearing[1] != -5000 || m.Bearing[4095] != -9094 {
		t.Errorf("%s, %v", tell(m), err)
	}
}

func TestManyTables(t *testing.T) {
	taken := 0
	for seed := range 20000 {
		next := numbers(seed)
		n := 1 + next(8)
		h := 1 + next(n)
		f := simple(n, h)
		for i := range f.advance {
			f.advance[i], f.bearing[i] = next(65536), next(65536)
		}
		f.upem, f.long, f.asc, f.desc, f.gap = 16+next(16369), next(2), next(65536), next(65536), next(65536)
		l := f.tables()
		for range next(3) {
			switch i := next(len(l)); next(4) {
			case 0:
				l = slices.Delete(l, i, i+1)
			case 1:
				l[i].Data = l[i].Data[:len(l[i].Data)-next(min(3, len(l[i].Data)+1))]
			case 2:
				l = append(l, api.Table{Tag: tags[next(4)], Data: l[i].Data})
			default:
				if d := []byte(l[i].Data); len(d) > 0 {
					d[next(len(d))] = byte(next(256))
					l[i].Data = string(d)
				}
			}
		}
		if alike(t, fmt.Sprint("seed ", seed), l) {
			taken++
		}
	}
	if taken < 7000 || taken > 16000 {
		t.Errorf("%d of 20000 taken: too few of one kind", taken)
	}
}

func TestLongTexts(t *testing.T) {
	long := strings.Repeat("\xff", 1<<24)
	for _, tag := range tags {
		l := simple(3, 2).tables()
		alike(t, "a long "+tag, with(l, tag, long))
		right(t, "much behind "+tag, with(l, tag, data(l, tag)+long), simple(3, 2).told())
		wrong(t, "a long tag", append(with(l, tag, "")[:4:4], api.Table{Tag: long, Data: long}))
	}
	all := make([]api.Table, 10000)
	right(t, "many tables ahead", append(all, simple(3, 2).tables()...), simple(3, 2).told())
	wrong(t, "many tables of nothing", all)
}

// The tables of a file, as sfnt reads them.
func TestReadOfAFile(t *testing.T) {
	f := simple(7, 3)
	s, err := sfnt.Build(append(f.tables(), api.Table{Tag: "glyf", Data: "x"}))
	l, again := sfnt.Read(s)
	if err != api.OK || again != api.OK {
		t.Fatal(err, again)
	}
	right(t, "a file", l, f.told())
}
