package face

import (
	"fmt"
	"math/big"
	"slices"
	"strings"
	"testing"
	"unsafe"

	"colophon/api"
	"colophon/cmap"
	"colophon/glyph"
	"colophon/metrics"
	"colophon/sfnt"
)

func TestTheChaptersExamples(t *testing.T) {
	f := api.Face{M: api.Metrics{Upem: 1000, Advance: []int{0, 500}, Bearing: []int{0, 0}}, Glyphs: []string{"", ""}, Chars: []api.Chars{{First: 97, Last: 97, Glyph: 1}}}
	shown(t, f, []int{97, 97}, 1, 1)
	missing(t, f, []int{97, 98}, 1)
	wide(t, f, []int{1, 1}, 655360, 655360, true)
	s, err := Save(f)
	if err != api.OK {
		t.Fatal(err)
	}
	again := copied(f)
	again.M.Long = true
	loaded(t, "the example", s, again)
	f.Glyphs[1] = "\xff\xff" + zeros(8) + "\x00\x00\x00\x01\x00\x00"
	checked(t, "its component is 1", f, api.ErrLoop)
	f.Glyphs[1] = "\xff\xff" + zeros(8) + "\x00\x00\x00\x02\x00\x00"
	checked(t, "its component is 2 of two", f, api.ErrGlyph)
}

// P12.3

// A whole file, byte by byte.
func TestAFileWrittenOut(t *testing.T) {
	f := api.Face{
		M:      api.Metrics{Upem: 1000, Ascent: 800, Descent: -200, Gap: 90, Box: [4]int{-1, -2, 3, 4}, Advance: []int{500, 600}, Bearing: []int{10, -10}},
		Glyphs: []string{"", "\xff\xff" + zeros(8) + "\x00\x00\x00\x00\x01\x02"},
		Chars:  []api.Chars{{First: 'a', Last: 'a', Glyph: 1}},
	}
	s, err := saved(t, "a small face", f)
	if len(s) != 124+40+16+56+36+8+12+32 || err != api.OK {
		t.Fatalf("%d bytes, %v", len(s), err)
	}
	if !sfnt.Whole(s) {
		t.Error("not whole")
	}
	at := 124
	for _, x := range []struct{ tag, data string }{
		{"cmap", "\x00\x00\x00\x01\x00\x03\x00\x0a\x00\x00\x00\x0c" + "\x00\x0c\x00\x00\x00\x00\x00\x1c\x00\x00\x00\x00\x00\x00\x00\x01\x00\x00\x00a\x00\x00\x00a\x00\x00\x00\x01"},
		{"glyf", "\xff\xff" + zeros(8) + "\x00\x00\x00\x00\x01\x02"},
		{"head", "\x00\x01\x00\x00\x00\x01\x00\x00" + s[at+64:at+68] + "\x5f\x0f\x3c\xf5\x00\x00\x03\xe8" + zeros(16) + "\xff\xff\xff\xfe\x00\x03\x00\x04" + zeros(4) + "\x00\x02\x00\x01\x00\x00"},
		{"hhea", "\x00\x01\x00\x00\x03\x20\xff\x38\x00\x5a\x02\x58" + zeros(22) + "\x00\x02"},
		{"hmtx", "\x01\xf4\x00\x0a\x02\x58\xff\xf6"},
		{"loca", "\x00\x00\x00\x00\x00\x00\x00\x00\x00\x00\x00\x10"},
		{"maxp", "\x00\x01\x00\x00\x00\x02" + zeros(8) + "\x00\x02" + zeros(16)},
	} {
		if got := s[at : at+len(x.data)]; got != x.data {
			t.Errorf("%s is %x; asked: %x", x.tag, got, x.data)
		}
		at += (len(x.data) + 3) / 4 * 4
	}
}

// The tables are just what the layers below make of the face.
func TestTablesOfASavedFace(t *testing.T) {
	for what, f := range faces() {
		for _, long := range []bool{false, true} {
			f.M.Long = long
			s, err := saved(t, what, f)
			if err != api.OK || !sfnt.Whole(s) {
				t.Fatalf("%s: %v", what, err)
			}
			m := f.M
			m.Long = true
			want, _ := metrics.Build(m)
			loca, glyf, _ := glyph.Join(f.Glyphs)
			chars, _ := cmap.Build(f.Chars, true)
			want = append(want, api.Table{Tag: "loca", Data: loca}, api.Table{Tag: "glyf", Data: glyf}, api.Table{Tag: "cmap", Data: chars})
			l, err := sfnt.Read(s)
			if len(l) != len(want) || err != api.OK {
				t.Fatalf("%s: %d tables, %v", what, len(l), err)
			}
			for _, x := range want {
				got := data(l, x.Tag)
				if x.Tag == "head" {
					got = turned(got, 8, zeros(4))
				}
				if got != x.Data {
					t.Errorf("%s: %s is %s; asked: %s", what, x.Tag, tell(got), tell(x.Data))
				}
			}
		}
	}
}

func TestFacesThatAreTooLong(t *testing.T) {
	fixed := 124 + 56 + 36 + 32 + 2*4 + 3*4 + 28 + 12 // of a face with two glyphs and a span, but for glyf
	full := dot + zeros(api.MaxBytes-fixed-len(dot))
	for _, x := range []struct {
		what   string
		glyphs []string
		err    api.Errno
	}{
		{"just as long as may be", []string{"", full}, api.OK},
		{"one byte less, and filled up", []string{"", full[:len(full)-1]}, api.OK},
		{"three bytes less, and filled up", []string{"", full[:len(full)-3]}, api.OK},
		{"a byte more", []string{"", full + "\x00"}, api.ErrLong},
		{"four bytes more", []string{"", full + zeros(4)}, api.ErrLong},
		{"with a short glyph", []string{dot, full[:len(full)-20]}, api.OK},
		{"with a short glyph, too long when filled up", []string{dot, full[:len(full)-19]}, api.ErrLong},
		{"glyf alone is as long as may be", []string{"", dot + zeros(api.MaxBytes-len(dot))}, api.ErrLong},
		{"glyf alone is too long", []string{"", dot + zeros(api.MaxBytes+1-len(dot))}, api.ErrLong},
		{"glyf alone is far too long", []string{full, full}, api.ErrLong},
	} {
		s, err := saved(t, x.what, made(x.glyphs...))
		if err != x.err || (s == "") != (err != api.OK) {
			t.Errorf("%s: %d bytes, %v; asked: %v", x.what, len(s), err, x.err)
		}
		checked(t, x.what, made(x.glyphs...), api.OK)
		// A face that may not be is told ahead of one that is too long.
		long := made(append(slices.Clone(x.glyphs), of(2))...)
		if s, err := Save(long); s != "" || err != api.ErrLoop {
			t.Errorf("%s, and a loop: %d bytes, %v", x.what, len(s), err)
		}
	}
	var spans []api.Chars
	for i := range 4096 {
		spans = append(spans, api.Chars{First: 2 * i, Last: 2 * i, Glyph: 1})
	}
	room := api.MaxBytes - fixed - 12*4095
	checked(t, "many spans", showing(made("", dot+zeros(room-len(dot))), spans...), api.OK)
	if s, err := saved(t, "many spans", showing(made("", dot+zeros(room-len(dot))), spans...)); len(s) != api.MaxBytes || err != api.OK {
		t.Errorf("many spans: %d bytes, %v", len(s), err)
	}
	if s, err := saved(t, "many spans, too long", showing(made("", dot+zeros(room-len(dot)+1)), spans...)); s != "" || err != api.ErrLong {
		t.Errorf("many spans, too long: %d bytes, %v", len(s), err)
	}
}

func TestFacesThatMayNotBeAreNotSaved(t *testing.T) {
	for _, x := range checkFaults() {
		f := base()
		x.face(&f)
		if s, err := Save(f); s != "" || err != x.err {
			t.Errorf("%s: %d bytes, %v", x.what, len(s), err)
		}
	}
	if s, err := Save(api.Face{}); s != "" || err != api.ErrHead {
		t.Errorf("nothing: %d bytes, %v", len(s), err)
	}
}

// P12.5

func TestLoadOfSave(t *testing.T) {
	for what, f := range faces() {
		for _, long := range []bool{false, true} {
			f := copied(f)
			f.M.Long = long
			s, err := Save(f)
			if err != api.OK {
				t.Fatalf("%s: %v", what, err)
			}
			back, err := Load(s)
			if err != api.OK || len(back.Glyphs) != len(f.Glyphs) || !back.M.Long {
				t.Fatalf("%s comes back as %s, %v", what, tell(back), err)
			}
			for i, g := range back.Glyphs {
				if len(g)%4 != 0 || len(g)-len(f.Glyphs[i]) > 3 || strings.TrimSuffix(g, zeros(len(g)-len(f.Glyphs[i]))) != f.Glyphs[i] {
					t.Errorf("%s: the glyph %d comes back as %s", what, i, tell(g))
				}
			}
			f.M.Long, f.Glyphs = true, back.Glyphs
			if !same(back, f) {
				t.Errorf("%s comes back as %s", what, tell(back))
			}
			checked(t, what+", back", back, api.OK)
			if again, err := Save(back); again != s || err != api.OK {
				t.Errorf("%s, saved once more, is another file, %v", what, err)
			}
		}
	}
}

func TestManyFacesSavedAndLoaded(t *testing.T) {
	for seed := range 2000 {
		next := numbers(seed)
		n := 1 + next(30)
		var glyphs []string
		for i := range n {
			g := ""
			switch next(4) {
			case 0:
				g = dot + zeros(next(9))
			case 1:
				if i > 0 && i%6 != 0 {
					g = of(i-1, i/6*6) + zeros(next(7))
				}
			}
			glyphs = append(glyphs, g)
		}
		f := showing(made(glyphs...))
		at := 0
		for range next(20) {
			if n == 1 {
				break
			}
			at += 2 + next(3000)
			g := 1 + next(n-1)
			last := at + next(n-g)
			f.Chars = append(f.Chars, api.Chars{First: at, Last: last, Glyph: g})
			at = last
		}
		f.M.Upem, f.M.Ascent, f.M.Descent, f.M.Long = 16+next(16369), next(65536)-32768, next(65536)-32768, next(2) == 0
		for i := range n {
			f.M.Advance[i], f.M.Bearing[i] = next(65536), next(65536)-32768
		}
		checked(t, fmt.Sprint("seed ", seed), f, api.OK)
	}
}

// P12.4

// shown fails, unless code points are shown by these glyphs.
func shown(t *testing.T, f api.Face, l []int, want ...int) {
	t.Helper()
	if got, at, err := Show(f, l); !slices.Equal(got, want) || at != 0 || err != api.OK {
		t.Errorf("Show(%v, %v) is %v, %d, %v; asked: %v", f.Chars, l, got, at, err, want)
	}
}

// missing fails, unless the code point at a place is told to have no glyph.
func missing(t *testing.T, f api.Face, l []int, want int) {
	t.Helper()
	if got, at, err := Show(f, l); got != nil || at != want || err != api.ErrMissing {
		t.Errorf("Show(%v, %v) is %v, %d, %v; asked: %d", f.Chars, l, got, at, err, want)
	}
}

func TestShow(t *testing.T) {
	f := showing(made("", dot, dot, dot, of(1)), api.Chars{First: 'a', Last: 'c', Glyph: 2}, api.Chars{First: 0x10000, Last: 0x10000, Glyph: 1})
	shown(t, f, nil)
	shown(t, f, []int{})
	shown(t, f, []int{'a'}, 2)
	shown(t, f, []int{'c'}, 4)
	shown(t, f, []int{0x10000}, 1)
	shown(t, f, []int{'c', 'a', 'b', 'a', 0x10000, 'c'}, 4, 2, 3, 2, 1, 4)
	missing(t, f, []int{'d'}, 0)
	missing(t, f, []int{'`'}, 0)
	missing(t, f, []int{'d', 'a', 'b'}, 0)
	missing(t, f, []int{'a', 'd', 'b'}, 1)
	missing(t, f, []int{'a', 'b', 'd'}, 2)
	missing(t, f, []int{'a', 'd', 'd', 'e'}, 1)
	missing(t, f, []int{'d', 'd'}, 0)
	for _, c := range []int{-1, 0, 1, 0xd800, 0xffff, 0x10001, 0x10ffff, 0x110000, 'a' + 1<<32, 'a' - 1<<32, -'a', least, least + 'a', most, 1 << 62} {
		missing(t, f, []int{c}, 0)
		missing(t, f, []int{'a', 'b', c, 'a'}, 2)
		missing(t, f, []int{'a', 'b', 'c', c}, 3)
	}
	all := make([]int, 100000)
	want := make([]int, len(all))
	for i := range all {
		all[i], want[i] = 'a'+i%3, 2+i%3
	}
	shown(t, f, all, want...)
	all[99999] = 0
	missing(t, f, all, 99999)
	all[5] = -7
	missing(t, f, all, 5)
}

// Nothing else is asked of the face.
func TestShowOfAnyFace(t *testing.T) {
	missing(t, api.Face{}, []int{'a'}, 0)
	shown(t, api.Face{}, nil)
	f := showing(api.Face{}, api.Chars{First: 5, Last: 9, Glyph: 4090}, api.Chars{First: 7, Last: 20, Glyph: 1}, api.Chars{First: -3, Last: -2, Glyph: 8}, api.Chars{First: 30, Last: 40, Glyph: -5}, api.Chars{First: most - 1, Last: most, Glyph: 3})
	shown(t, f, []int{5, 7, 9, 10, 20, -3, -2, 36, 40, most}, 4090, 4092, 4094, 4, 14, 8, 9, 1, 5, 4)
	missing(t, f, []int{36, 35}, 1)
	missing(t, f, []int{9, 30, 9}, 1)
	missing(t, showing(f, api.Chars{First: 5, Last: 9, Glyph: 4093}), []int{5, 6, 7, 8}, 3)
	missing(t, showing(f, api.Chars{First: least, Last: most, Glyph: 1}), []int{0}, 0)
	shown(t, showing(f, api.Chars{First: least, Last: most, Glyph: 1}), []int{least, least + 9}, 1, 10)
	bad := showing(made("", of(1), "a"), api.Chars{First: 5, Last: 9, Glyph: 1})
	shown(t, bad, []int{5, 9, 6}, 1, 5, 2)
}

func TestManyShows(t *testing.T) {
	some := 0
	for seed := range 5000 {
		next := numbers(seed)
		var f api.Face
		for range next(6) {
			first := next(40) - 5
			f.Chars = append(f.Chars, api.Chars{First: first, Last: first + next(15) - 2, Glyph: next(20) - 4})
		}
		var l, want []int
		for range next(8) {
			l = append(l, next(50)-8)
		}
		place := -1
		for i, c := range l {
			g := cmap.Find(f.Chars, c)
			want = append(want, g)
			if g == 0 && place < 0 {
				place = i
			}
		}
		if place < 0 {
			shown(t, f, l, want...)
			some += min(len(l), 1)
		} else {
			missing(t, f, l, place)
		}
	}
	if some < 200 {
		t.Errorf("%d of 5000 shown: too few", some)
	}
}

// wide fails, unless glyphs are as wide as is said.
func wide(t *testing.T, f api.Face, glyphs []int, size, want int, ok bool) {
	t.Helper()
	if got, gotOk := Long(f, glyphs, size); got != want || gotOk != ok {
		t.Errorf("Long(Upem %d, %v; %v, %d) is %d, %v; asked: %d, %v", f.M.Upem, f.M.Advance, glyphs, size, got, gotOk, want, ok)
	}
}

// advancing is a face of so many units an em and these advances.
func advancing(upem int, l ...int) api.Face {
	return api.Face{M: api.Metrics{Upem: upem, Advance: l}}
}

func TestLong(t *testing.T) {
	f := advancing(1000, 0, 500, 1000, 333)
	for _, size := range []int{least, -top - 1, -1, 0, 1, 655360, top, top + 1, most} {
		wide(t, f, nil, size, 0, true)
		wide(t, f, []int{}, size, 0, true)
		wide(t, api.Face{}, nil, size, 0, true)
		wide(t, api.Face{}, []int{0}, size, 0, false)
		ok := size >= 1 && size <= top
		wide(t, f, []int{0}, size, 0, ok)
		wide(t, f, []int{0, 0, 0}, size, 0, ok)
		if ok {
			wide(t, f, []int{2}, size, size, true)
		} else {
			wide(t, f, []int{2}, size, 0, false)
			wide(t, f, []int{1, 2, 0}, size, 0, false)
		}
	}
	wide(t, f, []int{1}, 655360, 327680, true)
	wide(t, f, []int{1, 1}, 655360, 655360, true)
	wide(t, f, []int{3, 2, 1, 0, 3}, 655360, 218235+655360+327680+218235, true)
	wide(t, f, slices.Repeat([]int{2}, 100000), 655360, 65536000000, true)
	for _, g := range []int{least, -1 << 32, -2, -1, 4, 5, 4096, 1 << 32, most} {
		wide(t, f, []int{g}, 655360, 0, false)
		wide(t, f, []int{g, 1}, 655360, 0, false)
		wide(t, f, []int{1, g}, 655360, 0, false)
		wide(t, f, []int{1, 2, g, 3}, 655360, 0, false)
	}
}

// Each width is rounded by itself, not the sum.
func TestWidthsAreRoundedOneByOne(t *testing.T) {
	f := advancing(1000, 1, 499, 501, -1)
	wide(t, f, []int{0}, 500, 1, true)
	wide(t, f, []int{0, 0, 0, 0}, 500, 4, true)
	wide(t, f, []int{0, 0, 0, 0}, 499, 0, true)
	wide(t, f, []int{1, 1, 1}, 1, 0, true)
	wide(t, f, []int{2, 2, 2}, 1, 3, true)
	wide(t, f, []int{3, 3}, 500, 0, true)
	wide(t, f, []int{3, 0, 3, 0}, 500, 2, true)
}

func TestSumsOnTheWay(t *testing.T) {
	f := advancing(16, 16, -16, 8, -8, 0)
	wide(t, f, []int{0}, top, top, true)
	wide(t, f, []int{1}, top, -top, true)
	wide(t, f, []int{2, 2}, top, top, true)
	wide(t, f, []int{2, 2, 4, 4}, top, top, true)
	wide(t, f, []int{2, 2, 2}, top, 0, false)
	wide(t, f, []int{0, 0}, top, 0, false)
	wide(t, f, []int{1, 1}, top, 0, false)
	wide(t, f, []int{0, 1}, top, 0, true)
	wide(t, f, []int{0, 1, 1, 0}, top, 0, true)
	wide(t, f, []int{1, 0, 0, 1}, top, 0, true)
	// The whole would be in.
	wide(t, f, []int{0, 0, 1}, top, 0, false)
	wide(t, f, []int{0, 0, 1, 1}, top, 0, false)
	wide(t, f, []int{0, 2, 3}, top, 0, false)
	wide(t, f, []int{0, 3, 2}, top, top, true)
	wide(t, f, []int{1, 3, 2}, top, 0, false)
	wide(t, f, []int{1, 2, 3}, top, -top, true)
	wide(t, f, []int{2, 3, 1, 3, 2}, top, 0, false)
	// By one at the edge.
	one := advancing(16384, 16384, 1, -1)
	wide(t, one, []int{0, 1}, top-1<<26, top-1<<26+1<<26-1<<12, true)
	wide(t, one, []int{0, 1}, top, 0, false)
	wide(t, one, []int{0, 2, 1}, top, top, true)
	wide(t, one, []int{0, 1, 2}, top, 0, false)
	// A width that is none itself.
	wide(t, advancing(16, 17), []int{0}, top, 0, false)
	wide(t, advancing(16, most, least), []int{0}, 1, 0, false)
	wide(t, advancing(16, most, least), []int{1}, 1, 0, false)
	wide(t, advancing(16, 16*top+7), []int{0}, 1, top, true)
	wide(t, advancing(16, 16*top+8), []int{0}, 1, 0, false)
	// 2^24 widths of 2^40 are 2^64, which is 0 in 64 bits.
	wide(t, f, make([]int, 1<<24), top, 0, false)
}

func TestLongOfAnyFace(t *testing.T) {
	for _, upem := range []int{least, -1, 0, 1, 15} {
		wide(t, advancing(upem, 5), []int{0}, 655360, 0, false)
		wide(t, advancing(upem, 5), nil, 655360, 0, true)
	}
	wide(t, advancing(16, 16), []int{0}, 7, 7, true)
	wide(t, advancing(20000, 20000), []int{0, 0}, 7, 14, true)
	bad := made("", of(1), "a")
	bad.M.Bearing, bad.Chars = nil, []api.Chars{{First: 9, Last: 3, Glyph: -1}}
	wide(t, bad, []int{1, 2}, 1000, 501+502, true)
	bad.Glyphs = nil
	wide(t, bad, []int{1, 2}, 1000, 501+502, true)
}

// trueLong adds without bounds.
func trueLong(f api.Face, glyphs []int, size int) (int, bool) {
	sum, bound := new(big.Int), big.NewInt(top)
	for _, g := range glyphs {
		if g < 0 || g >= len(f.M.Advance) || size < 1 || size > top || f.M.Upem < 16 {
			return 0, false
		}
		x := new(big.Int).Mul(big.NewInt(int64(f.M.Advance[g])), big.NewInt(int64(size)))
		upem := big.NewInt(int64(f.M.Upem))
		x.Add(x.Lsh(x, 1), upem)
		x.Div(x, new(big.Int).Lsh(upem, 1))
		if x.CmpAbs(bound) > 0 || sum.Add(sum, x).CmpAbs(bound) > 0 {
			return 0, false
		}
	}
	return int(sum.Int64()), true
}

func TestManyLongs(t *testing.T) {
	count := 0
	for seed := range 20000 {
		next := numbers(seed)
		f := advancing(16 + next(2000))
		for range 1 + next(5) {
			f.M.Advance = append(f.M.Advance, next(5000)-1000)
		}
		var glyphs []int
		for range next(8) {
			glyphs = append(glyphs, next(len(f.M.Advance)))
		}
		if next(20) == 0 {
			glyphs = append(glyphs, len(f.M.Advance))
		}
		size := 1 + next(1<<(1+next(30)))
		if next(3) == 0 {
			size = top / (1 + next(12))
		}
		want, ok := trueLong(f, glyphs, size)
		wide(t, f, glyphs, size, want, ok)
		if ok {
			count++
		}
	}
	if count < 8000 || count > 19000 {
		t.Errorf("%d of 20000 are in: too few of one kind", count)
	}
}

// What is handed in is not changed, and nothing told is shared.

// roomy is a face whose lists have spare room with something in it, and the one
// that has this in its lists.
func roomy(f api.Face) (inner, whole api.Face) {
	whole = copied(f)
	whole.M.Advance = append(whole.M.Advance, 7, -7)
	whole.M.Bearing = append(whole.M.Bearing, 8, -8)
	whole.Glyphs = append(whole.Glyphs, "a", dot)
	whole.Chars = append(whole.Chars, api.Chars{First: 1 << 19, Last: 1 << 19, Glyph: 1}, api.Chars{})
	inner = whole
	inner.M.Advance, inner.M.Bearing = whole.M.Advance[:len(f.M.Advance)], whole.M.Bearing[:len(f.M.Bearing)]
	inner.Glyphs, inner.Chars = whole.Glyphs[:len(f.Glyphs)], whole.Chars[:len(f.Chars)]
	return inner, whole
}

func TestNothingHandedInIsChanged(t *testing.T) {
	all := faces()
	for i, x := range checkFaults() {
		f := base()
		x.face(&f)
		all[fmt.Sprint("fault ", i)] = f
	}
	all["nothing"] = api.Face{}
	for what, f := range all {
		inner, whole := roomy(f)
		was := copied(whole)
		wasShown := []int{'a', 'b', 1 << 19, 1, 2}
		points := slices.Clone(wasShown)
		Check(inner)
		Save(inner)
		Show(inner, points[:2])
		Long(inner, points[3:4], 655360)
		if !same(whole, was) || !slices.Equal(points, wasShown) {
			t.Errorf("%s is changed", what)
		}
		if err := Check(inner); err != modelCheck(f) {
			t.Errorf("%s, with spare room: %v", what, err)
		}
		missing(t, inner, []int{1 << 19}, 0)
		wide(t, inner, []int{len(f.M.Advance)}, 655360, 0, false)
	}
	f := made("", dot, dot)
	shown(t, f, []int{'a', 'b', 'z'}[:2], 1, 2)
	wide(t, f, []int{1, 2, 9}[:2], 1000, 501+502, true)
	s := fileOf(tablesOf(f, true))
	was := strings.Clone(s)
	Load(s)
	if s != was {
		t.Error("a file is changed")
	}
}

// stretch is the memory of a text, or of a list with its spare room. It holds a
// pointer, not a number, so that this memory is not freed and given to another
// answer while stretches are gathered.
type stretch struct {
	what string
	at   unsafe.Pointer
	size uintptr
}

func (a stretch) from() uintptr { return uintptr(a.at) }
func (a stretch) to() uintptr   { return uintptr(a.at) + a.size }

func ofText(what, s string) stretch {
	return stretch{what, unsafe.Pointer(unsafe.StringData(s)), uintptr(len(s))}
}

func ofList[T any](what string, l []T) stretch {
	var x T
	return stretch{what, unsafe.Pointer(unsafe.SliceData(l)), uintptr(cap(l)) * unsafe.Sizeof(x)}
}

func ofFace(what string, f api.Face) []stretch {
	all := []stretch{ofList(what+"'s Advance", f.M.Advance), ofList(what+"'s Bearing", f.M.Bearing), ofList(what+"'s Glyphs", f.Glyphs), ofList(what+"'s Chars", f.Chars)}
	for i, g := range f.Glyphs {
		all = append(all, ofText(fmt.Sprint(what, "'s glyph ", i), g))
	}
	return all
}

func apart(t *testing.T, l []stretch) {
	t.Helper()
	slices.SortFunc(l, func(a, b stretch) int {
		if a.from() != b.from() {
			if a.from() < b.from() {
				return -1
			}
			return 1
		}
		return int(a.size) - int(b.size)
	})
	var last stretch
	for _, x := range l {
		if x.size > 0 && x.from() < last.to() {
			t.Errorf("%s and %s share memory", last.what, x.what)
		}
		if x.to() > last.to() {
			last = x
		}
	}
}

func TestAnswersAreNewMemory(t *testing.T) {
	for what, f := range faces() {
		for i, g := range f.Glyphs {
			f.Glyphs[i] = strings.Clone(g)
		}
		s, err := Save(f)
		again, _ := Save(f)
		if err != api.OK || s != again {
			t.Fatal(what, err)
		}
		one, _ := Load(s)
		next, _ := Load(s)
		if !same(one, next) {
			t.Fatalf("%s is loaded in two ways", what)
		}
		all := []stretch{ofText("a file", s), ofText("the next file", again)}
		all = append(all, ofFace("what is handed in", f)...)
		all = append(append(all, ofFace("one answer", one)...), ofFace("the next", next)...)
		apart(t, all)
		spoil(one)
		loaded(t, what+", behind changes of another answer", again, next)
		was := long(f)
		spoil(f)
		if !same(next, was) {
			t.Errorf("%s: an answer is changed by what it was made of", what)
		}
	}
	f := made("", dot, dot)
	l := []int{'a', 'b', 'a'}
	one, _, _ := Show(f, l)
	next, _, _ := Show(f, l)
	apart(t, []stretch{ofList("code points", l), ofList("one answer", one), ofList("the next", next), ofList("Chars", f.Chars)})
}

// spoil changes a face's lists, with their spare room.
func spoil(f api.Face) {
	for _, l := range [][]int{f.M.Advance, f.M.Bearing} {
		l = l[:cap(l)]
		for i := range l {
			l[i] = -99
		}
	}
	glyphs, chars := f.Glyphs[:cap(f.Glyphs)], f.Chars[:cap(f.Chars)]
	for i := range glyphs {
		glyphs[i] = "spoilt"
	}
	for i := range chars {
		chars[i] = api.Chars{First: -9, Last: -8, Glyph: -7}
	}
}

// With an error nothing else is told, however far a call came.
func TestNothingBesideAnError(t *testing.T) {
	for _, x := range loadFaults() {
		f, err := Load(file(true, x))
		if !nothing(f) || err != x.err {
			t.Errorf("%s: %s, %v", x.what, tell(f), err)
		}
	}
	l, at, err := Show(made("", dot), []int{'a', 'a', 'b'})
	if l != nil || at != 2 || err != api.ErrMissing {
		t.Errorf("%v, %d, %v", l, at, err)
	}
	if x, ok := Long(made("", dot), []int{1, 1, 2}, 655360); x != 0 || ok {
		t.Errorf("%d, %v", x, ok)
	}
	if s, err := Save(made("", dot, of(2))); s != "" || err != api.ErrLoop {
		t.Errorf("%s, %v", tell(s), err)
	}
}

func TestAnswersHangOnTheArgumentsAlone(t *testing.T) {
	f := base()
	s := fileOf(tablesOf(f, true))
	for range 3 {
		loaded(t, "a file", s, long(f))
		checked(t, "a face", f, api.OK)
		shown(t, f, []int{'a', 'b'}, 1, 2)
		wide(t, f, []int{0, 1}, 1000, 1001, true)
		for _, x := range loadFaults() {
			refused(t, x.what, file(true, x), x.err)
		}
		Check(made("", of(1)))
		Save(made(make([]string, 5000)...))
		Show(f, []int{-1})
		Long(f, []int{-1}, 0)
	}
}
