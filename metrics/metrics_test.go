package metrics

import (
	"fmt"
	"slices"
	"testing"
	"unsafe"

	"colophon/api"
	"colophon/fixed"
	"colophon/sfnt"
)

func TestTheChaptersExamples(t *testing.T) {
	if w, ok := Width(api.Metrics{Upem: 1000, Advance: []int{500}, Bearing: []int{0}}, 0, 655360); w != 327680 || !ok {
		t.Errorf("Width: %d, %v", w, ok)
	}
	if x, ok := Units(api.Metrics{Upem: 2048}, -1, 65536); x != -32 || !ok {
		t.Errorf("Units: %d, %v", x, ok)
	}
	if x, ok := Units(api.Metrics{Upem: 2048}, -1, 0); x != 0 || ok {
		t.Errorf("Units at size 0: %d, %v", x, ok)
	}
	if m, err := Read(nil); !same(m, api.Metrics{}) || err != api.ErrHead {
		t.Errorf("Read of no tables: %v, %v", m, err)
	}
	m, err := Read(with(simple(2, 1).tables(), "hmtx", "\x01\xf4\x00\x0a\xff\xf6"))
	if err != api.OK || !slices.Equal(m.Advance, []int{500, 500}) || !slices.Equal(m.Bearing, []int{10, -10}) {
		t.Errorf("two glyphs: %v, %v", m, err)
	}
}

// some is good metrics of so many glyphs, all numbers different.
func some(n int) api.Metrics {
	return simple(n, n).told()
}

// P9.2

// built fails, unless good metrics are built byte by byte as by the test's own
// builder, and are read back.
func built(t *testing.T, what string, m api.Metrics) []api.Table {
	t.Helper()
	if !Good(m) {
		t.Errorf("%s: %s is not good", what, tell(m))
	}
	l, err := Build(m)
	if err != api.OK || !slices.Equal(l, modelBuild(m)) {
		t.Fatalf("%s: %s is built as %s, %v; asked: %s", what, tell(m), tell(l), err, tell(modelBuild(m)))
	}
	right(t, what, l, m)
	return l
}

// refused fails, unless metrics are not good, and nothing is built of them.
func refused(t *testing.T, what string, m api.Metrics) {
	t.Helper()
	if Good(m) {
		t.Errorf("%s: %s is good", what, tell(m))
	}
	if l, err := Build(m); len(l) != 0 || err != api.ErrHead {
		t.Errorf("%s: %s is built as %s, %v", what, tell(m), tell(l), err)
	}
}

func TestTablesWrittenOut(t *testing.T) {
	m := api.Metrics{Upem: 1000, Ascent: 0x0102, Descent: -2, Gap: 0x0304, Box: [4]int{-1, -32768, 32767, 0x0506}, Long: true, Advance: []int{500, 65535, 0}, Bearing: []int{10, -10, 0x0708}}
	want := []api.Table{
		{Tag: "head", Data: "\x00\x01\x00\x00\x00\x01\x00\x00\x00\x00\x00\x00\x5f\x0f\x3c\xf5\x00\x00\x03\xe8\x00\x00\x00\x00\x00\x00\x00\x00\x00\x00\x00\x00\x00\x00\x00\x00\xff\xff\x80\x00\x7f\xff\x05\x06\x00\x00\x00\x00\x00\x02\x00\x01\x00\x00"},
		{Tag: "hhea", Data: "\x00\x01\x00\x00\x01\x02\xff\xfe\x03\x04\xff\xff\x00\x00\x00\x00\x00\x00\x00\x00\x00\x00\x00\x00\x00\x00\x00\x00\x00\x00\x00\x00\x00\x00\x00\x03"},
		{Tag: "hmtx", Data: "\x01\xf4\x00\x0a\xff\xff\xff\xf6\x00\x00\x07\x08"},
		{Tag: "maxp", Data: "\x00\x01\x00\x00\x00\x03\x00\x00\x00\x00\x00\x00\x00\x00\x00\x02\x00\x00\x00\x00\x00\x00\x00\x00\x00\x00\x00\x00\x00\x00\x00\x00"},
	}
	if l := built(t, "three glyphs", m); !slices.Equal(l, want) {
		t.Errorf("%+q; asked: %+q", l, want)
	}
	m.Long = false
	want[0].Data = want[0].Data[:51] + "\x00" + want[0].Data[52:]
	if l := built(t, "not long", m); !slices.Equal(l, want) {
		t.Errorf("%+q; asked: %+q", l, want)
	}
	one := built(t, "one glyph", api.Metrics{Upem: 16, Advance: []int{7}, Bearing: []int{-1}})
	if one[2].Data != "\x00\x07\xff\xff" || one[1].Data != "\x00\x01\x00\x00"+zeros(6)+"\x00\x07"+zeros(22)+"\x00\x01" || one[3].Data != "\x00\x01\x00\x00\x00\x01"+zeros(8)+"\x00\x02"+zeros(16) {
		t.Errorf("%+q", one)
	}
	most := built(t, "as many as may be", some(4096))
	if len(most[2].Data) != 4*4096 || most[1].Data[34:] != "\x10\x00" || most[3].Data[4:6] != "\x10\x00" || most[1].Data[10:12] != two(500+4095) {
		t.Errorf("%s", tell(most))
	}
}

func TestOrderAndLengthsOfTables(t *testing.T) {
	for _, n := range []int{1, 2, 3, 255, 256, 257, 4095, 4096} {
		l := built(t, fmt.Sprint(n, " glyphs"), some(n))
		var tags []string
		var sizes []int
		for _, x := range l {
			tags, sizes = append(tags, x.Tag), append(sizes, len(x.Data))
		}
		if !slices.Equal(tags, []string{"head", "hhea", "hmtx", "maxp"}) || !slices.Equal(sizes, []int{54, 36, 4 * n, 32}) {
			t.Errorf("%d glyphs: %v, %v", n, tags, sizes)
		}
	}
}

func TestTheGreatestAdvance(t *testing.T) {
	for _, n := range []int{1, 2, 5} {
		for at := range n {
			for _, x := range []int{0, 1, 255, 256, 32767, 32768, 65535} {
				m := some(n)
				clear(m.Advance)
				m.Advance[at] = x
				if l := built(t, "one advance", m); l[1].Data[10:12] != two(x) {
					t.Errorf("%v: %+q", m.Advance, l[1].Data)
				}
			}
		}
	}
	m := some(4096)
	m.Advance[2000] = 50000
	if l := built(t, "many", m); l[1].Data[10:12] != two(50000) {
		t.Errorf("%+q", l[1].Data)
	}
}

// field is a number of metrics, and from where to where it may go.
type field struct {
	what     string
	from, to int
	set      func(m *api.Metrics, x int)
}

func fields() []field {
	l := []field{
		{"Upem", 16, 16384, func(m *api.Metrics, x int) { m.Upem = x }},
		{"Ascent", -32768, 32767, func(m *api.Metrics, x int) { m.Ascent = x }},
		{"Descent", -32768, 32767, func(m *api.Metrics, x int) { m.Descent = x }},
		{"Gap", -32768, 32767, func(m *api.Metrics, x int) { m.Gap = x }},
	}
	for i := range 4 {
		l = append(l, field{fmt.Sprint("Box ", i), -32768, 32767, func(m *api.Metrics, x int) { m.Box[i] = x }})
	}
	for i := range 3 {
		l = append(l, field{fmt.Sprint("Advance ", i), 0, 65535, func(m *api.Metrics, x int) { m.Advance[i] = x }})
		l = append(l, field{fmt.Sprint("Bearing ", i), -32768, 32767, func(m *api.Metrics, x int) { m.Bearing[i] = x }})
	}
	return l
}

func TestGoodNumbers(t *testing.T) {
	for _, f := range fields() {
		try := func(x int) {
			m := some(3)
			f.set(&m, x)
			if what := fmt.Sprint(f.what, " as ", x); x >= f.from && x <= f.to {
				built(t, what, m)
			} else {
				refused(t, what, m)
			}
		}
		for _, x := range []int{f.from, f.from + 1, f.to - 1, f.to, f.from - 1, f.from - 2, f.to + 1, f.to + 2, f.from + 65536, f.to - 65536, f.from - 65536, f.to + 65536, 0, 1, -1, 15, 16, 17, 1000, 4096, 1<<32 + 16, 1<<32 + 100, -1<<32 + 100, 1<<40 + 1000, least, least + 16, least + 1000, most} {
			try(x)
		}
		for x := -70000; x < 140000; x += 397 {
			try(x)
		}
	}
}

// Metrics with two numbers out of their bounds are no better.
func TestSeveralNumbersThatAreNotGood(t *testing.T) {
	for _, a := range fields() {
		for _, b := range fields() {
			m := some(3)
			a.set(&m, a.from-1)
			b.set(&m, b.to+1)
			refused(t, a.what+" and "+b.what, m)
		}
	}
	refused(t, "nothing", api.Metrics{})
}

func TestGoodLists(t *testing.T) {
	for _, n := range []int{0, 1, 2, 3, 4095, 4096, 4097, 4098, 5000, 8192, 65536, 65537, 1<<16 + 4096} {
		m := api.Metrics{Upem: 1000, Advance: make([]int, n), Bearing: make([]int, n)}
		if what := fmt.Sprint(n, " glyphs"); n >= 1 && n <= 4096 {
			built(t, what, m)
		} else {
			refused(t, what, m)
		}
		for _, other := range []int{0, 1, 2, n - 1, n + 1, n + 65536, 2 * n, n / 2, 4096, 4097} {
			if other < 0 || other == n {
				continue
			}
			m.Bearing = make([]int, other)
			refused(t, fmt.Sprint(n, " advances, ", other, " bearings"), m)
		}
		m.Bearing = nil
		refused(t, fmt.Sprint(n, " advances, no list of bearings"), m)
	}
	refused(t, "no advances", api.Metrics{Upem: 16, Bearing: []int{1}})
	refused(t, "empty lists", api.Metrics{Upem: 16, Advance: []int{}, Bearing: []int{}})
	for at := range 4096 {
		m := api.Metrics{Upem: 1000, Advance: make([]int, 4096), Bearing: make([]int, 4096)}
		if m.Advance[at] = 65536; Good(m) {
			t.Errorf("the Advance %d is too great", at)
		}
		m.Advance[at], m.Bearing[at] = 0, -32769
		if Good(m) {
			t.Errorf("the Bearing %d is too small", at)
		}
	}
}

// P9.3

// counted fails, unless Units, and Width by the advance u, answer what is asked.
func counted(t *testing.T, upem, u, size, want int, ok bool) {
	t.Helper()
	if got, is := Units(api.Metrics{Upem: upem}, u, size); got != want || is != ok {
		t.Errorf("Units(%d, %d, %d) is %d, %v; asked: %d, %v", upem, u, size, got, is, want, ok)
	}
	if got, is := Width(api.Metrics{Upem: upem, Advance: []int{7, u, 8}}, 1, size); got != want || is != ok {
		t.Errorf("Width of the advance %d at Upem %d, size %d is %d, %v; asked: %d, %v", u, upem, size, got, is, want, ok)
	}
	if got, is := modelUnits(upem, u, size); got != want || is != ok {
		t.Errorf("%d, %d, %d: this test's own are %d, %v", upem, u, size, got, is)
	}
}

func TestUnits(t *testing.T) {
	for _, x := range []struct {
		upem, u, size, want int
		ok                  bool
	}{
		{1000, 500, 655360, 327680, true}, {2048, -1, 65536, -32, true}, {2048, 1, 65536, 32, true}, {1000, 0, 1, 0, true}, {1000, 1000, 1, 1, true}, {1000, 500, 1, 1, true}, {1000, 499, 1, 0, true}, {1000, -500, 1, 0, true}, {1000, -501, 1, -1, true}, {1000, -1500, 1, -1, true}, {1000, 1500, 1, 2, true},
		{15, 1, 65536, 0, false}, {16, 1, 65536, 4096, true}, {0, 1, 65536, 0, false}, {-1, 1, 65536, 0, false}, {-16, 1, 65536, 0, false}, {least, 1, 65536, 0, false}, {1, 1, 1, 0, false},
		{16384, 1, 65536, 4, true}, {16385, 16385, 65536, 65536, true}, {65536, 3, 65536, 3, true}, {most, 1, 1, 0, true}, {most, most, 9, 9, true}, {most, -most, 9, -9, true}, {most, least, 9, -9, true},
		{16, 0, 0, 0, false}, {16, 0, 1, 0, true}, {16, 0, -1, 0, false}, {16, 16, 0, 0, false}, {16, 16, 1, 1, true}, {16, 16, -1, 0, false}, {16, -16, -1, 0, false}, {16, 1, least, 0, false}, {16, 0, least, 0, false}, {16, -1, least, 0, false},
		{16, 0, 1 << 40, 0, true}, {16, 0, 1<<40 + 1, 0, false}, {16, 0, most, 0, false}, {16, 1, 1 << 40, 1 << 36, true}, {16, 1, 1<<40 + 1, 0, false}, {1000, 500, 1 << 40, 1 << 39, true},
		{16, 16, 1 << 40, 1 << 40, true}, {16, -16, 1 << 40, -1 << 40, true}, {16, 17, 1 << 40, 0, false}, {16, -17, 1 << 40, 0, false}, {16, 16 << 40, 1, 1 << 40, true}, {16, 16<<40 + 7, 1, 1 << 40, true}, {16, 16<<40 + 8, 1, 0, false}, {16, -16 << 40, 1, -1 << 40, true}, {16, -16<<40 - 8, 1, -1 << 40, true}, {16, -16<<40 - 9, 1, 0, false},
		{16, most, 1, 0, false}, {16, least, 1, 0, false}, {16, most, 1 << 40, 0, false}, {16, least, 1 << 40, 0, false}, {1 << 40, most, 1, 1 << 23, true}, {16384, 1 << 62, 1 << 40, 0, false},
	} {
		counted(t, x.upem, x.u, x.size, x.want, x.ok)
	}
}

func TestManyUnits(t *testing.T) {
	upems := []int{least, -1, 0, 1, 15, 16, 17, 255, 1000, 2047, 2048, 16384, 16385, 1 << 40, most}
	units := []int{least, least + 1, -1 << 62, -1<<44 - 1, -1 << 44, -65536, -32768, -1000, -1, 0, 1, 7, 8, 15, 16, 500, 999, 1000, 32767, 65535, 65536, 1 << 40, 1<<44 + 7, 1<<44 + 8, 1 << 62, most}
	sizes := []int{least, -65536, -1, 0, 1, 2, 3, 16, 999, 65535, 65536, 655360, 1<<40 - 1, 1 << 40, 1<<40 + 1, 1 << 44, most}
	taken := 0
	try := func(upem, u, size int) {
		want, ok := modelUnits(upem, u, size)
		counted(t, upem, u, size, want, ok)
		if ok {
			taken++
		}
	}
	for _, upem := range upems {
		for _, u := range units {
			for _, size := range sizes {
				try(upem, u, size)
			}
		}
	}
	next := numbers(9)
	for range 20000 {
		try(16+next(3000), next(1<<(1+next(30)))-next(1<<(1+next(30))), 1+next(1<<(1+next(30))))
	}
	if taken < 10000 {
		t.Errorf("%d taken", taken)
	}
}

// What it is of says nothing but Upem.
func TestUnitsOfMetricsThatAreNotGood(t *testing.T) {
	for _, m := range []api.Metrics{{Upem: 1000}, {Upem: 1000, Ascent: most, Descent: least, Gap: 1 << 40, Box: [4]int{most, least, 1, 2}, Long: true, Advance: []int{-1}, Bearing: []int{1, 2, 3}}, {Upem: 1000, Advance: make([]int, 5000)}} {
		if x, ok := Units(m, 500, 655360); x != 327680 || !ok || Good(m) {
			t.Errorf("%s: %d, %v", tell(m), x, ok)
		}
	}
}

func TestWidth(t *testing.T) {
	for _, n := range []int{0, 1, 2, 3, 4096, 5000} {
		for _, bearings := range []int{0, 1, n, n + 1, 2 * n} {
			m := api.Metrics{Upem: 1000, Bearing: make([]int, bearings)}
			for i := range n {
				m.Advance = append(m.Advance, 100+i)
			}
			for _, glyph := range []int{least, -n, -2, -1, 0, 1, n / 2, n - 2, n - 1, n, n + 1, bearings - 1, bearings, 4095, 4096, 65536, 1 << 32, most} {
				want, ok := 0, glyph >= 0 && glyph < n
				if ok {
					want = (100 + glyph) * 1000
				}
				if got, is := Width(m, glyph, 1000000); got != want || is != ok {
					t.Errorf("%d advances, %d bearings, the glyph %d: %d, %v; asked: %d, %v", n, bearings, glyph, got, is, want, ok)
				}
			}
		}
	}
	for i, x := range []int{0, 65535, 65536, -1, -500, 1 << 40} {
		want, ok := fixed.Scale(x, 655360, 1000)
		if got, is := Width(api.Metrics{Upem: 1000, Advance: []int{0, 65535, 65536, -1, -500, 1 << 40}}, i, 655360); got != want || is != ok {
			t.Errorf("the advance %d: %d, %v; asked: %d, %v", x, got, is, want, ok)
		}
	}
	// Spare room holds no glyphs.
	m := api.Metrics{Upem: 1000, Advance: []int{1, 2, 3}[:2], Bearing: []int{1, 2, 3}}
	if x, ok := Width(m, 2, 1000); x != 0 || ok {
		t.Errorf("a glyph in spare room: %d, %v", x, ok)
	}
}

// P9.4

func TestMetricsComeBack(t *testing.T) {
	ends := []int{-32768, -32767, -256, -255, -1, 0, 1, 127, 128, 255, 256, 32766, 32767}
	for seed := range 5000 {
		next := numbers(seed)
		number := func() int {
			if next(2) == 0 {
				return ends[next(len(ends))]
			}
			return next(65536) - 32768
		}
		m := api.Metrics{Upem: 16 + next(16369), Ascent: number(), Descent: number(), Gap: number(), Box: [4]int{number(), number(), number(), number()}, Long: next(2) == 1}
		for range 1 + next(12) {
			m.Advance, m.Bearing = append(m.Advance, number()+32768), append(m.Bearing, number())
		}
		l := built(t, fmt.Sprint("seed ", seed), m)
		s, err := sfnt.Build(l)
		back, again := sfnt.Read(s)
		if err != api.OK || again != api.OK || !sfnt.Whole(s) {
			t.Fatalf("seed %d: %v, %v", seed, err, again)
		}
		right(t, "through a file", back, m)
	}
	for _, upem := range []int{16, 17, 255, 256, 16383, 16384} {
		for _, long := range []bool{false, true} {
			m := some(4096)
			m.Upem, m.Long = upem, long
			built(t, "as many glyphs as may be", m)
		}
	}
}

// What Read tells is good, so that it can be built again.
func TestWhatIsReadIsGood(t *testing.T) {
	for n := 1; n < 40; n++ {
		for h := 1; h <= n; h++ {
			f := simple(n, h)
			f.long, f.asc, f.desc = h%2, -32768, 32767
			m, err := Read(f.tables())
			if err != api.OK {
				t.Fatal(err)
			}
			built(t, "what was read", m)
		}
	}
}

// What is handed in is not changed, and nothing told is shared.

func TestNothingHandedInIsChanged(t *testing.T) {
	for _, l := range [][]api.Table{nil, simple(3, 2).tables(), simple(3, 4).tables(), simple(3, 2).tables()[:3], slices.Concat(simple(2, 1).tables(), simple(3, 3).tables())} {
		roomy := slices.Concat(l, simple(7, 2).tables())
		was := slices.Clone(roomy)
		Read(roomy[:len(l)])
		if !slices.Equal(roomy, was) {
			t.Errorf("%s is changed to %s", tell(was), tell(roomy))
		}
	}
	if _, err := Read(simple(3, 2).tables()[:3]); err != api.ErrHead {
		t.Error("Read looks into spare room")
	}
	for _, n := range []int{0, 1, 3, 4096, 4097} {
		for _, more := range []int{0, 1, 5000} {
			m := some(n + more)
			m.Upem = 1000 * (1 - more%2)
			was := m
			was.Advance, was.Bearing = slices.Clone(m.Advance), slices.Clone(m.Bearing)
			x := m
			x.Advance, x.Bearing = m.Advance[:n], m.Bearing[:n]
			Good(x)
			Build(x)
			Units(x, 1, 65536)
			Width(x, 0, 65536)
			Width(x, n, 65536)
			if !same(m, was) {
				t.Errorf("%s is changed to %s", tell(was), tell(m))
			}
		}
	}
	m := some(4097)
	m.Advance, m.Bearing = m.Advance[:4096], m.Bearing[:4096]
	built(t, "with spare room", m)
}

// stretch is the memory of a text, or of a list with its spare room. It holds a
// pointer, not a number, so that this memory is not freed and given to another
// answer while stretches are gathered.
type stretch struct {
	what string
	at   unsafe.Pointer
	size uintptr
}

func (a stretch) from() uintptr { return uintptr(a.at) }
func (a stretch) to() uintptr   { return uintptr(a.at) + a.size }

func ofText(what, s string) stretch {
	return stretch{what, unsafe.Pointer(unsafe.StringData(s)), uintptr(len(s))}
}

func ofNumbers(what string, l []int) stretch {
	return stretch{what, unsafe.Pointer(unsafe.SliceData(l)), uintptr(cap(l)) * unsafe.Sizeof(0)}
}

func ofMetrics(what string, m api.Metrics) []stretch {
	return []stretch{ofNumbers(what+"'s Advance", m.Advance), ofNumbers(what+"'s Bearing", m.Bearing)}
}

func ofTables(what string, l []api.Table) []stretch {
	all := []stretch{{what, unsafe.Pointer(unsafe.SliceData(l)), uintptr(cap(l)) * unsafe.Sizeof(api.Table{})}}
	for _, x := range l {
		all = append(all, ofText(what+"'s tag "+x.Tag, x.Tag), ofText(what+"'s data of "+x.Tag, x.Data))
	}
	return all
}

func apart(t *testing.T, l []stretch) {
	t.Helper()
	for i, a := range l {
		for _, b := range l[:i] {
			if max(a.from(), b.from()) < min(a.to(), b.to()) {
				t.Errorf("%s and %s share memory", a.what, b.what)
			}
		}
	}
}

func TestAnswersAreNewMemory(t *testing.T) {
	for _, n := range []int{1, 2, 3, 100, 4096} {
		given := some(n)
		first, _ := Build(given)
		second, _ := Build(given)
		all := ofMetrics("what is handed in", given)
		all = append(append(all, ofTables("the first tables", first)...), ofTables("the second", second)...)
		once, _ := Read(first)
		again, _ := Read(first)
		all = append(append(all, ofMetrics("one answer", once)...), ofMetrics("the next", again)...)
		apart(t, all)
		fill(once.Advance[:cap(once.Advance)])
		fill(once.Bearing[:cap(once.Bearing)])
		if !same(again, given) {
			t.Error("an answer that was changed changed another")
		}
		clear(first[:cap(first)])
		right(t, "an answer, behind changes of another", second, given)
		fill(given.Advance)
		fill(given.Bearing)
		right(t, "an answer, behind changes of what it was made of", second, again)
	}
	f := simple(9, 3)
	m, _ := Read(f.tables())
	apart(t, ofMetrics("a font with few advances", m))
}

func fill(l []int) {
	for i := range l {
		l[i] = -99
	}
}

// With an error nothing else is told, however far the reader came.
func TestNothingBesideAnError(t *testing.T) {
	l := simple(3, 2).tables()
	for _, x := range [][]api.Table{nil, with(l, "hmtx", ""), with(l, "hhea", ""), with(l, "head", ""), with(l, "maxp", ""), turned(l, "head", 52, "\x00\x01"), turned(l, "hhea", 34, "\x00\x04"), with(l, "hmtx", data(l, "hmtx")[:9])} {
		m, err := Read(x)
		if err != api.ErrHead || !same(m, api.Metrics{}) || m.Advance != nil || m.Bearing != nil {
			t.Errorf("%s: %s, %v", tell(x), tell(m), err)
		}
	}
}

func TestAnswersHangOnTheArgumentsAlone(t *testing.T) {
	f := simple(3, 2)
	for range 3 {
		right(t, "a font", f.tables(), f.told())
		built(t, "metrics", some(5))
		counted(t, 1000, 500, 655360, 327680, true)
		Read(simple(4096, 1).tables())
		Read(simple(3, 4).tables())
		Build(api.Metrics{Upem: 1})
		Build(some(4096))
		Units(api.Metrics{Upem: 3}, most, most)
		Width(api.Metrics{}, 0, 0)
	}
}
