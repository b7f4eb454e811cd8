package face

import (
	"fmt"
	"slices"
	"strings"
	"testing"

	"colophon/api"
	"colophon/cmap"
	"colophon/sfnt"
)

// P12.2

// replaced are tables, one of them with other data.
func replaced(l []api.Table, tag, data string) []api.Table {
	l = slices.Clone(l)
	for i := range l {
		if l[i].Tag == tag {
			l[i].Data = data
		}
	}
	return l
}

// without are tables without some of them.
func without(l []api.Table, tags ...string) []api.Table {
	return slices.DeleteFunc(slices.Clone(l), func(t api.Table) bool { return slices.Contains(tags, t.Tag) })
}

func data(l []api.Table, tag string) string {
	for _, t := range l {
		if t.Tag == tag {
			return t.Data
		}
	}
	return ""
}

// turned is a text with other bytes at a place.
func turned(s string, at int, bytes string) string { return s[:at] + bytes + s[at+len(bytes):] }

// evenly is a face whose glyphs have even lengths, so that it can have places
// of two bytes.
func evenly(f api.Face) api.Face {
	f = copied(f)
	for i, g := range f.Glyphs {
		f.Glyphs[i] = filled(g, 2)
	}
	return f
}

// faces are some that may be, of all kinds.
func faces() map[string]api.Face {
	var spans []api.Chars
	for i := range 4096 {
		spans = append(spans, api.Chars{First: 2 * i, Last: 2 * i, Glyph: 1 + i%2})
	}
	return map[string]api.Face{
		"one empty glyph":   made(""),
		"one simple glyph":  made(dot),
		"empty glyphs":      made("", "", ""),
		"some of all kinds": made("", dot, of(1), of(2, 1), "", dot+zeros(9)),
		"composites behind": made(of(1), of(2, 3), dot, of(4), ""),
		"eight deep":        made("", of(0), of(1), of(2), of(3), of(4), of(5), of(6), of(7)),
		"no characters":     showing(made("", dot, of(1))),
		"many characters":   showing(made("", dot, of(1)), spans...),
		"far characters":    showing(made("", dot, dot), api.Chars{First: 0, Last: 0, Glyph: 1}, api.Chars{First: 0xffff, Last: 0x10000, Glyph: 1}, api.Chars{First: 0x10ffff, Last: 0x10ffff, Glyph: 2}),
		"all glyphs":        made(slices.Repeat([]string{dot}, 4096)...),
		"the faults' base":  base(),
	}
}

func TestOrdinaryLoads(t *testing.T) {
	for what, f := range faces() {
		loaded(t, what+", long", fileOf(tablesOf(f, true)), long(f))
		even := evenly(f)
		loaded(t, what+", not long", fileOf(tablesOf(even, false)), even)
	}
}

// Places may leave bytes out, and glyphs need not be filled up.
func TestPlacesOfGlyphs(t *testing.T) {
	f := made("", dot, of(1))
	even := evenly(f)
	l, short := tablesOf(f, true), tablesOf(even, false)
	place := func(form func(int) string, numbers ...int) string {
		s := ""
		for _, x := range numbers {
			s += form(x)
		}
		return s
	}
	at := func(l []api.Table, loca, glyf string) string {
		return fileOf(replaced(replaced(l, "loca", loca), "glyf", glyf))
	}
	f.M.Long = true
	loaded(t, "just as long as they are", at(l, place(four, 0, 0, 17, 33), dot+of(1)), f)
	loaded(t, "from a place on", at(l, place(four, 3, 3, 20, 36), "abc"+dot+of(1)+"def"), f)
	loaded(t, "two bytes, from a place on", at(short, place(two, 2, 2, 11, 19), "abcd"+dot+"\x00"+of(1)+"ef"), even)
	loaded(t, "more places than are read", at(l, place(four, 0, 0, 17, 33, 5, 1<<31), dot+of(1)), f)
	loaded(t, "more places of two bytes", at(short, place(two, 0, 0, 9, 17, 5, 65535), dot+"\x00"+of(1)), even)
	refused(t, "a place less", at(l, place(four, 0, 0, 17), dot+of(1)), api.ErrGlyph)
	refused(t, "a byte of the places less", at(l, place(four, 0, 0, 17, 33)[:15], dot+of(1)), api.ErrGlyph)
	refused(t, "a place of two bytes less", at(short, place(two, 0, 0, 9), dot+"\x00"+of(1)), api.ErrGlyph)
	refused(t, "places that fall", at(l, place(four, 0, 17, 0, 33), dot+of(1)), api.ErrGlyph)
	refused(t, "a place behind the end", at(l, place(four, 0, 0, 17, 34), dot+of(1)), api.ErrGlyph)
	refused(t, "a place of two bytes behind the end", at(short, place(two, 0, 0, 9, 18), dot+"\x00"+of(1)), api.ErrGlyph)
	refused(t, "places of two bytes, said to be long", at(l, place(two, 0, 0, 9, 17), dot+"\x00"+of(1)), api.ErrGlyph)
	refused(t, "other pieces than glyphs", at(l, place(four, 0, 1, 17, 33), dot+of(1)), api.ErrGlyph)
	refused(t, "no glyphs in an empty glyf", at(l, place(four, 0, 0, 17, 33), ""), api.ErrGlyph)
	// Long places that are said to be short ones: all glyphs are empty, since only
	// zeros are read.
	none := made("", "", "")
	loaded(t, "long places, said to be of two bytes", fileOf(replaced(replaced(short, "loca", place(four, 0, 0, 17, 33)), "glyf", dot+of(1))), none)
	refused(t, "the same, and the places behind are read", fileOf(replaced(replaced(short, "loca", place(four, 0, 17, 33, 33)), "glyf", dot+of(1))), api.ErrGlyph)
}

// The metrics and the characters may be told in any way that is right.
func TestOtherFormsOfTables(t *testing.T) {
	f := long(made("", dot, of(1), dot))
	l := tablesOf(f, true)
	loaded(t, "as it is", fileOf(l), f)
	loaded(t, "a short maxp", fileOf(replaced(l, "maxp", "\x00\x00\x50\x00\x00\x04")), f)
	loaded(t, "a long head", fileOf(replaced(l, "head", data(l, "head")+"more")), f)
	loaded(t, "a long hmtx", fileOf(replaced(l, "hmtx", data(l, "hmtx")+"more of it")), f)
	few := copied(f)
	few.M.Advance = []int{7, 8, 8, 8}
	few.M.Bearing = []int{1, -2, 3, -4}
	one := replaced(l, "hhea", turned(data(l, "hhea"), 34, two(2)))
	loaded(t, "few advances", fileOf(replaced(one, "hmtx", two(7)+two(1)+two(8)+two(-2)+two(3)+two(-4))), few)
	narrow, err := cmap.Build(f.Chars, false)
	if err != api.OK {
		t.Fatal(err)
	}
	loaded(t, "a narrow map", fileOf(replaced(l, "cmap", narrow)), f)
	loaded(t, "a map that is cut into pieces", fileOf(replaced(l, "cmap", mapOf([]api.Chars{{First: 'a', Last: 'a', Glyph: 1}, {First: 'b', Last: 'b', Glyph: 2}, {First: 'c', Last: 'c', Glyph: 3}}))), f)
	loaded(t, "a map that goes to glyph 0, too", fileOf(replaced(l, "cmap", mapOf([]api.Chars{{First: '`', Last: 'c', Glyph: 0}}))), f)
	loaded(t, "a map up to the last glyph", fileOf(replaced(l, "cmap", mapOf([]api.Chars{{First: 'a', Last: 'a', Glyph: 3}}))), showing(f, api.Chars{First: 'a', Last: 'a', Glyph: 3}))
	refused(t, "a map up to the next", fileOf(replaced(l, "cmap", mapOf([]api.Chars{{First: 'a', Last: 'b', Glyph: 3}}))), api.ErrCmap)
	refused(t, "a map to one that only MaxGlyphs have", fileOf(replaced(l, "cmap", mapOf([]api.Chars{{First: 'a', Last: 'a', Glyph: 4095}}))), api.ErrCmap)
}

func TestTablesBeside(t *testing.T) {
	f := long(base())
	l := tablesOf(f, true)
	beside := []api.Table{{Tag: "    ", Data: ""}, {Tag: "OS/2", Data: "any"}, {Tag: "Loca", Data: "a"}, {Tag: "GLYF", Data: "b"}, {Tag: "cmaq", Data: "c"}, {Tag: "name", Data: strings.Repeat("names", 99)}, {Tag: "zzzz", Data: "z"}, {Tag: "~~~~", Data: ""}}
	for i, x := range beside {
		loaded(t, "a table beside: "+x.Tag, fileOf(append(slices.Clone(l), x)), f)
		loaded(t, fmt.Sprint(i, " tables beside"), fileOf(append(slices.Clone(l), beside[:i]...)), f)
	}
	for i := range 25 {
		l = append(l, api.Table{Tag: fmt.Sprintf("t%03d", i), Data: zeros(i)})
	}
	loaded(t, "as many tables as may be", fileOf(l), f)
	refused(t, "one table more", fileOf(append(l, api.Table{Tag: "more"})), api.ErrTable)
	// Others don't stand in for those that are read.
	refused(t, "no loca, but others", fileOf(append(without(tablesOf(f, true), "loca"), beside...)), api.ErrGlyph)
	refused(t, "no cmap, but others", fileOf(append(without(tablesOf(f, true), "cmap"), beside...)), api.ErrCmap)
}

// loadFaults are in the order in which their errors are told.
func loadFaults() []fault {
	cut := func(tag string, less int) func(l []api.Table) []api.Table {
		return func(l []api.Table) []api.Table {
			s := data(l, tag)
			return replaced(l, tag, s[:max(len(s)-less, 0)])
		}
	}
	turn := func(tag string, at int, bytes string) func(l []api.Table) []api.Table {
		return func(l []api.Table) []api.Table {
			s := data(l, tag)
			if len(s) < at+len(bytes) {
				return l
			}
			return replaced(l, tag, turned(s, at, bytes))
		}
	}
	gone := func(tags ...string) func(l []api.Table) []api.Table {
		return func(l []api.Table) []api.Table { return without(l, tags...) }
	}
	sums := func(s string) string { return turned(s, 16, string([]byte{s[16] ^ 1})) }
	return slices.Concat([]fault{
		{what: "too long", err: api.ErrLong, file: func(s string) string { return s + strings.Repeat("a", api.MaxBytes+1-len(s)) }},
		{what: "no directory", err: api.ErrTable, file: func(s string) string { return turned(s, 0, "\x01") }},
		{what: "a place that is none", err: api.ErrTable, file: func(s string) string { return turned(s, 20, "\xff") }},
		{what: "a wrong sum", err: api.ErrSum, file: sums},
		{what: "no maxp", err: api.ErrHead, tables: gone("maxp")},
		{what: "no head", err: api.ErrHead, tables: gone("head")},
		{what: "no hhea", err: api.ErrHead, tables: gone("hhea")},
		{what: "no hmtx", err: api.ErrHead, tables: gone("hmtx")},
		{what: "a short hmtx", err: api.ErrHead, tables: cut("hmtx", 1)},
		{what: "a wrong Upem", err: api.ErrHead, tables: turn("head", 18, "\x00\x0f")},
		{what: "Long is 2", err: api.ErrHead, tables: turn("head", 50, "\x00\x02")},
		{what: "more glyphs than hmtx tells of", err: api.ErrHead, tables: turn("maxp", 4, "\x0f\xff")},
		{what: "no loca", err: api.ErrGlyph, tables: gone("loca")},
		{what: "no glyf", err: api.ErrGlyph, tables: gone("glyf")},
		{what: "neither", err: api.ErrGlyph, tables: gone("loca", "glyf")},
		{what: "a short loca", err: api.ErrGlyph, tables: cut("loca", 1)},
		{what: "a loca that falls", err: api.ErrGlyph, tables: turn("loca", 4, "\xff")},
		{what: "a short glyf", err: api.ErrGlyph, tables: cut("glyf", 1)},
		{what: "an empty glyf", err: api.ErrGlyph, tables: cut("glyf", api.MaxBytes)},
		{what: "no cmap", err: api.ErrCmap, tables: gone("cmap")},
		{what: "a short cmap", err: api.ErrCmap, tables: cut("cmap", 1)},
		{what: "an empty cmap", err: api.ErrCmap, tables: cut("cmap", api.MaxBytes)},
		{what: "a cmap of another encoding", err: api.ErrCmap, tables: turn("cmap", 6, "\x00\x00")},
		{what: "a cmap to a glyph that is none", err: api.ErrCmap, face: func(f *api.Face) { f.Chars[0].Last++ }},
	}, glyphFaults())
}

// file is the font file of a face with faults in it.
func file(long bool, faults ...fault) string {
	f := base()
	for _, x := range faults {
		if x.face != nil {
			x.face(&f)
		}
	}
	l := tablesOf(f, long)
	for _, x := range faults {
		if x.tables != nil {
			l = x.tables(l)
		}
	}
	s := fileOf(l)
	for _, x := range faults {
		if x.file != nil {
			s = x.file(s)
		}
	}
	return s
}

func TestTheFirstErrorOfAFile(t *testing.T) {
	loaded(t, "no fault", file(true), long(base()))
	loaded(t, "no fault, not long", file(false), evenly(base()))
	faults := loadFaults()
	for _, long := range []bool{true, false} {
		for i, a := range faults {
			refused(t, fmt.Sprint(a.what, ", long: ", long), file(long, a), a.err)
			for _, b := range faults[i+1:] {
				what := fmt.Sprint(a.what, ", ", b.what, ", long: ", long)
				refused(t, what, file(long, a, b), a.err)
				refused(t, what+", the other way round", file(long, b, a), a.err)
			}
		}
	}
}

func TestFilesThatAreNone(t *testing.T) {
	for _, s := range []string{"", "a", "\x00", "\x00\x01\x00\x00", zeros(12), zeros(100), strings.Repeat("\xff", 1000), "\x00\x01\x00\x00\x00\x00\x00\x00\x00\x00\x00\x00", strings.Repeat("a", api.MaxBytes)} {
		refused(t, tell(s), s, api.ErrTable)
	}
	refused(t, "a byte too long", strings.Repeat("a", api.MaxBytes+1), api.ErrLong)
	refused(t, "far too long", zeros(1<<22), api.ErrLong)
	refused(t, "tables that say nothing", fileOf([]api.Table{{Tag: "abcd", Data: "x"}}), api.ErrHead)
	refused(t, "empty tables", fileOf([]api.Table{{Tag: "cmap"}, {Tag: "glyf"}, {Tag: "head"}, {Tag: "hhea"}, {Tag: "hmtx"}, {Tag: "loca"}, {Tag: "maxp"}}), api.ErrHead)
}

// The table glyf must be there, even if no glyph has a byte of it.
func TestTablesOfEmptyGlyphs(t *testing.T) {
	for _, form := range []bool{true, false} {
		for _, n := range []int{1, 2, 100} {
			f := made(make([]string, n)...)
			f.M.Long = form
			l := tablesOf(f, form)
			what := fmt.Sprint(n, " empty glyphs, long: ", form)
			if data(l, "glyf") != "" {
				t.Fatal(what)
			}
			loaded(t, what, fileOf(l), f)
			refused(t, what+", no glyf", fileOf(without(l, "glyf")), api.ErrGlyph)
			refused(t, what+", no loca", fileOf(without(l, "loca")), api.ErrGlyph)
			refused(t, what+", neither", fileOf(without(l, "glyf", "loca")), api.ErrGlyph)
			refused(t, what+", no glyf, no cmap", fileOf(without(l, "glyf", "cmap")), api.ErrGlyph)
			refused(t, what+", no cmap", fileOf(without(l, "cmap")), api.ErrCmap)
			refused(t, what+", no glyf, no hhea", fileOf(without(l, "glyf", "hhea")), api.ErrHead)
		}
	}
}

// As much as is asked of a file of the greatest length.
func TestTheGreatestFile(t *testing.T) {
	f := long(made("", dot))
	l := tablesOf(f, true)
	s := fileOf(append(l, api.Table{Tag: "room"}))
	l = append(l, api.Table{Tag: "room", Data: strings.Repeat("a", api.MaxBytes-len(s))})
	s = fileOf(l)
	if len(s) != api.MaxBytes {
		t.Fatalf("%d bytes", len(s))
	}
	loaded(t, "as long as may be", s, f)
	refused(t, "a byte more", s+"\x00", api.ErrLong)
}

// A turned byte is told by a sum, but for those that are in none and those of
// tags.
func TestFilesWithAByteTurnedOrCut(t *testing.T) {
	f := long(made("", dot, of(1)))
	s := fileOf(tablesOf(f, true))
	loaded(t, "as it is", s, f)
	count := map[api.Errno]int{}
	for at := range len(s) {
		refused(t, fmt.Sprint("cut at ", at), s[:at], api.ErrTable)
		for _, bit := range []byte{1, 0x10, 0x80} {
			x := turned(s, at, string([]byte{s[at] ^ bit}))
			want := turnedError(x)
			count[want]++
			what := fmt.Sprint("bit ", bit, " of the byte ", at)
			if want == api.OK {
				loaded(t, what, x, f)
			} else {
				refused(t, what, x, want)
			}
		}
	}
	for _, err := range []api.Errno{api.OK, api.ErrTable, api.ErrSum, api.ErrHead, api.ErrGlyph, api.ErrCmap} {
		if count[err] == 0 {
			t.Errorf("%v is not among %v", err, count)
		}
	}
}

// turnedError is the error of a file of which one byte is turned: if it is not a
// directory's error, and no sum tells of it, a table may have lost its tag.
func turnedError(s string) api.Errno {
	tables, err := sfnt.Read(s)
	if err != api.OK {
		return err
	}
	for _, x := range []struct {
		tag string
		err api.Errno
	}{{"maxp", api.ErrHead}, {"head", api.ErrHead}, {"hhea", api.ErrHead}, {"hmtx", api.ErrHead}, {"loca", api.ErrGlyph}, {"glyf", api.ErrGlyph}, {"cmap", api.ErrCmap}} {
		if _, ok := sfnt.Find(tables, x.tag); !ok {
			return x.err
		}
	}
	return api.OK
}
