package face

import (
	"cmp"
	"encoding/binary"
	"fmt"
	"math"
	"math/bits"
	"slices"
	"strings"
	"testing"

	"colophon/api"
	"colophon/cmap"
	"colophon/glyph"
	"colophon/metrics"
)

// The chapter's words once more, in another way.

const (
	least = math.MinInt
	most  = math.MaxInt
	top   = api.MaxSp
	eight = "box of 8"
)

func two(x int) string  { return string(binary.BigEndian.AppendUint16(nil, uint16(x))) }
func four(x int) string { return string(binary.BigEndian.AppendUint32(nil, uint32(x))) }

func zeros(n int) string { return strings.Repeat("\x00", n) }

// filled is a text, filled up with bytes 0 to a multiple of unit.
func filled(s string, unit int) string {
	for len(s)%unit != 0 {
		s += "\x00"
	}
	return s
}

// dot is a simple glyph of one point: 17 bytes, so that it has to be filled up.
const dot = "\x00\x01" + eight + "\x00\x00\x00\x00\x37\x05\x07"

// of is a composite glyph of these components.
func of(parts ...int) string {
	var s strings.Builder
	s.WriteString("\xff\xff" + eight)
	for i, p := range parts {
		flags := 32
		if i == len(parts)-1 {
			flags = 0
		}
		s.WriteString(two(flags) + two(p) + "\x01\x02")
	}
	return s.String()
}

// upTo are the numbers from one to another.
func upTo(from, to int) []int {
	var l []int
	for x := from; x <= to; x++ {
		l = append(l, x)
	}
	return l
}

// made is a face of glyphs, with metrics that are all different ones; its
// glyphs from 1 on show the characters from a on.
func made(glyphs ...string) api.Face {
	f := api.Face{M: api.Metrics{Upem: 1000, Ascent: 800, Descent: -201, Gap: 92, Box: [4]int{-1, -2, 3, 4}}, Glyphs: glyphs}
	for i := range glyphs {
		f.M.Advance, f.M.Bearing = append(f.M.Advance, 500+i), append(f.M.Bearing, 10-i)
	}
	if len(glyphs) > 1 {
		f.Chars = []api.Chars{{First: 'a', Last: 'a' + len(glyphs) - 2, Glyph: 1}}
	}
	return f
}

// copied is a face that shares nothing with the one it is made of, but texts.
func copied(f api.Face) api.Face {
	f.M.Advance, f.M.Bearing = slices.Clone(f.M.Advance), slices.Clone(f.M.Bearing)
	f.Glyphs, f.Chars = slices.Clone(f.Glyphs), slices.Clone(f.Chars)
	return f
}

// with is a face with a glyph in another's place.
func with(f api.Face, at int, g string) api.Face {
	f = copied(f)
	f.Glyphs[at] = g
	return f
}

// showing is a face with these characters.
func showing(f api.Face, l ...api.Chars) api.Face {
	f.Chars = l
	return f
}

// long is a face with Long set and its glyphs filled up: what it is when it was
// saved and loaded.
func long(f api.Face) api.Face {
	f = copied(f)
	f.M.Long = true
	for i, g := range f.Glyphs {
		f.Glyphs[i] = filled(g, 4)
	}
	return f
}

func same(a, b api.Face) bool {
	return a.M.Upem == b.M.Upem && a.M.Ascent == b.M.Ascent && a.M.Descent == b.M.Descent && a.M.Gap == b.M.Gap && a.M.Box == b.M.Box && a.M.Long == b.M.Long &&
		slices.Equal(a.M.Advance, b.M.Advance) && slices.Equal(a.M.Bearing, b.M.Bearing) && slices.Equal(a.Glyphs, b.Glyphs) && slices.Equal(a.Chars, b.Chars)
}

// nothing tells whether a face is the one beside an error.
func nothing(f api.Face) bool {
	return same(f, api.Face{}) && f.M.Advance == nil && f.M.Bearing == nil && f.Glyphs == nil && f.Chars == nil
}

// modelCheck goes down all ways from each glyph, and keeps for each how many
// composite glyphs the longest one has.
func modelCheck(f api.Face) api.Errno {
	if !metrics.Good(f.M) {
		return api.ErrHead
	}
	n := len(f.M.Advance)
	if len(f.Glyphs) != n {
		return api.ErrGlyph
	}
	parts := map[int][]int{}
	for i, g := range f.Glyphs {
		if glyph.Check(g) != api.OK {
			return api.ErrGlyph
		}
		parts[i], _ = glyph.Parts(g)
		for _, p := range parts[i] {
			if p >= n {
				return api.ErrGlyph
			}
		}
	}
	const onTheWay, endless = -1, 1 << 20
	depth := map[int]int{}
	var down func(g int) int
	down = func(g int) int {
		if d, ok := depth[g]; ok {
			if d == onTheWay {
				return endless
			}
			return d
		}
		depth[g] = onTheWay
		d := 0
		for _, p := range parts[g] {
			d = max(d, 1+down(p))
		}
		depth[g] = d
		return d
	}
	for g := range n {
		if down(g) > 8 {
			return api.ErrLoop
		}
	}
	if !cmap.Good(f.Chars, n) {
		return api.ErrCmap
	}
	return api.OK
}

// tablesOf are a face's seven tables, with places of four bytes or of two (then
// its glyphs must have even lengths), not by rising tags.
func tablesOf(f api.Face, long bool) []api.Table {
	m, n := f.M, len(f.M.Advance)
	format, unit, place := 0, 2, func(x int) string { return two(x / 2) }
	if long {
		format, unit, place = 1, 4, four
	}
	var loca, glyf, hmtx strings.Builder
	for _, g := range f.Glyphs {
		loca.WriteString(place(glyf.Len()))
		glyf.WriteString(filled(g, unit))
	}
	loca.WriteString(place(glyf.Len()))
	for i := range n {
		hmtx.WriteString(two(m.Advance[i]) + two(m.Bearing[i]))
	}
	box := two(m.Box[0]) + two(m.Box[1]) + two(m.Box[2]) + two(m.Box[3])
	widest := 0
	if n > 0 {
		widest = slices.Max(m.Advance)
	}
	return []api.Table{
		{Tag: "maxp", Data: "\x00\x01\x00\x00" + two(n) + zeros(8) + "\x00\x02" + zeros(16)},
		{Tag: "head", Data: "\x00\x01\x00\x00\x00\x01\x00\x00" + zeros(4) + "\x5f\x0f\x3c\xf5" + zeros(2) + two(m.Upem) + zeros(16) + box + zeros(4) + "\x00\x02" + two(format) + zeros(2)},
		{Tag: "hhea", Data: "\x00\x01\x00\x00" + two(m.Ascent) + two(m.Descent) + two(m.Gap) + two(widest) + zeros(22) + two(n)},
		{Tag: "hmtx", Data: hmtx.String()},
		{Tag: "loca", Data: loca.String()},
		{Tag: "glyf", Data: glyf.String()},
		{Tag: "cmap", Data: mapOf(f.Chars)},
	}
}

// mapOf is a wide table of characters.
func mapOf(l []api.Chars) string {
	var s strings.Builder
	s.WriteString(two(0) + two(1) + two(3) + two(10) + four(12) + two(12) + two(0) + four(16+12*len(l)) + four(0) + four(len(l)))
	for _, c := range l {
		s.WriteString(four(c.First) + four(c.Last) + four(c.Glyph))
	}
	return s.String()
}

func sum(s string) int {
	var x uint32
	for s = filled(s, 4); s != ""; s = s[4:] {
		x += binary.BigEndian.Uint32([]byte(s[:4]))
	}
	return int(x)
}

// fileOf is the font file of tables.
func fileOf(tables []api.Table) string {
	l := slices.Clone(tables)
	slices.SortFunc(l, func(a, b api.Table) int { return cmp.Compare(a.Tag, b.Tag) })
	p := 1 << (bits.Len(uint(len(l))) - 1)
	rows, data := "", ""
	own := -1 // where the file's own sum stands
	for _, t := range l {
		at := 12 + 16*len(l) + len(data)
		if t.Tag == "head" && len(t.Data) >= 12 {
			t.Data, own = t.Data[:8]+zeros(4)+t.Data[12:], at+8
		}
		rows += t.Tag + four(sum(t.Data)) + four(at) + four(len(t.Data))
		data += filled(t.Data, 4)
	}
	s := "\x00\x01\x00\x00" + two(len(l)) + two(16*p) + two(bits.Len(uint(p))-1) + two(16*(len(l)-p)) + rows + data
	if own >= 0 {
		s = s[:own] + four(0xb1b0afba-sum(s)) + s[own+4:]
	}
	return s
}

func modelSave(f api.Face) (string, api.Errno) {
	if err := modelCheck(f); err != api.OK {
		return "", err
	}
	size := 0
	for _, g := range f.Glyphs {
		size += len(g)
	}
	if size > 1<<20 {
		return "", api.ErrLong
	}
	s := fileOf(tablesOf(f, true))
	if len(s) > 1<<20 {
		return "", api.ErrLong
	}
	return s, api.OK
}

// tell is how something is shown: its beginning.
func tell(x any) string {
	s := fmt.Sprintf("%x", x)
	if f, ok := x.(api.Face); ok {
		s = fmt.Sprintf("glyphs %x, %v, %+v", f.Glyphs, f.Chars, f.M)
	}
	return s[:min(len(s), 400)]
}

// checked fails, unless a face is as is said, is saved just if it may be and is
// not too long, and is then loaded again as it was.
func checked(t *testing.T, what string, f api.Face, want api.Errno) {
	t.Helper()
	was := copied(f)
	if err := Check(f); err != want {
		t.Errorf("%s: Check(%s) is %v; asked: %v", what, tell(f), err, want)
	}
	if err := modelCheck(f); err != want {
		t.Errorf("%s: this test's own checker tells %v; asked: %v", what, err, want)
	}
	saved(t, what, f)
	if !same(f, was) {
		t.Errorf("%s: %s is changed to %s", what, tell(was), tell(f))
	}
}

// saved fails, unless a face is saved as by the test's own saver, and loaded
// again as it was.
func saved(t *testing.T, what string, f api.Face) (string, api.Errno) {
	t.Helper()
	want, wantErr := modelSave(f)
	s, err := Save(f)
	if s != want || err != wantErr {
		t.Errorf("%s: Save(%s) is %s, %v; asked: %s, %v", what, tell(f), tell(s), err, tell(want), wantErr)
	}
	if err == api.OK {
		loaded(t, what+", saved", s, long(f))
	}
	return s, err
}

// loaded fails, unless a file is loaded as this face.
func loaded(t *testing.T, what, s string, want api.Face) {
	t.Helper()
	if f, err := Load(s); !same(f, want) || err != api.OK {
		t.Errorf("%s: Load is %s, %v; asked: %s", what, tell(f), err, tell(want))
	}
}

// refused fails, unless a file is refused with that error, and nothing beside.
func refused(t *testing.T, what, s string, want api.Errno) {
	t.Helper()
	if f, err := Load(s); !nothing(f) || err != want {
		t.Errorf("%s: Load is %s, %v; asked: %v", what, tell(f), err, want)
	}
}

// numbers are as if by chance, and hang on the seed alone.
func numbers(seed int) func(below int) int {
	x := uint64(seed)*2654435761 + 1
	return func(below int) int {
		x = x*6364136223846793005 + 1442695040888963407
		return int(x>>33) % below
	}
}
