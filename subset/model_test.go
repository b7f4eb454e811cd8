package subset_test

import (
	"encoding/binary"
	"fmt"
	"maps"
	"math"
	"slices"
	"strings"
	"testing"

	"colophon/api"
	"colophon/cmap"
	"colophon/face"
	"colophon/glyph"
	"colophon/subset"
)

// The chapter's words once more, in another way.

const (
	least = math.MinInt
	most  = math.MaxInt
	eight = "\x00\x01\x00\x02\x00\x03\x00\x04" // as if these were glyphs' numbers
)

func two(x int) string   { return string(binary.BigEndian.AppendUint16(nil, uint16(x))) }
func zeros(n int) string { return strings.Repeat("\x00", n) }

// dot is a simple glyph of one point: 17 bytes.
const dot = "\x00\x01" + eight + "\x00\x00\x00\x00\x37\x05\x07"

// line is a simple glyph of two points, with instructions.
const line = "\x00\x01" + eight + "\x00\x01\x00\x04\x00\x01\x00\x02\x3f\x01\x05\x07\x08\x09"

// kinds of composite glyphs: the flags of a component, what stands behind its
// number, and what stands behind the last one, with that one's flags.
type kind struct {
	flags  int
	behind string
	last   int
	end    string
}

// plain has just what a component must have. What stands behind numbers looks
// like numbers of glyphs, so that nothing can be put in the wrong place unseen.
var plain = kind{behind: "\x00\x01"}

func kinds() []kind {
	return []kind{
		plain,
		{flags: 1, behind: "\x00\x01\x00\x02"},
		{flags: 8, behind: "\x00\x01\x00\x02"},
		{flags: 64, behind: "\x00\x01\x00\x02\x00\x03"},
		{flags: 128, behind: "\x00\x01\x00\x02\x00\x03\x00\x04\x00\x05"},
		{flags: 1 | 128, behind: "\x00\x01\x00\x02\x00\x03\x00\x04\x00\x05\x00\x06"},
		{flags: 2 | 4 | 16 | 512 | 0xf000, behind: "\x00\x02"},
		{behind: "\x00\x01", end: zeros(5)},
		{behind: "\x00\x01", last: 256, end: "\x00\x04\x00\x01\x00\x02"},
		{flags: 1 | 8, behind: "\x00\x01\x00\x02\x00\x03", last: 256, end: "\x00\x03\x00\x01\x02" + zeros(3)},
		{flags: 256, behind: "\x00\x01", end: "\x00\x00"},
	}
}

// of is a composite glyph of these components.
func (k kind) of(parts ...int) string {
	var s strings.Builder
	s.WriteString("\xff\xff" + eight)
	for i, p := range parts {
		flags := k.flags | 32
		if i == len(parts)-1 {
			flags = k.flags | k.last
		}
		s.WriteString(two(flags) + two(p) + k.behind)
	}
	return s.String() + k.end
}

func of(parts ...int) string { return plain.of(parts...) }

// upTo are the numbers from one to another.
func upTo(from, to int) []int {
	var l []int
	for x := from; x <= to; x++ {
		l = append(l, x)
	}
	return l
}

// made is a face of glyphs, with metrics that are all different ones.
func made(glyphs ...string) api.Face {
	f := api.Face{M: api.Metrics{Upem: 1000, Ascent: 800, Descent: -201, Gap: 92, Box: [4]int{-1, -2, 3, 4}}, Glyphs: glyphs}
	for i := range glyphs {
		f.M.Advance, f.M.Bearing = append(f.M.Advance, 500+7*i), append(f.M.Bearing, 100-i)
	}
	return f
}

// dots is a face of so many simple glyphs.
func dots(n int) api.Face { return made(slices.Repeat([]string{dot}, n)...) }

// chars is a list of threes: First, Last, Glyph.
func chars(l ...int) []api.Chars {
	var out []api.Chars
	for x := range slices.Chunk(l, 3) {
		out = append(out, api.Chars{First: x[0], Last: x[1], Glyph: x[2]})
	}
	return out
}

// showing is a face with these characters, in threes.
func showing(f api.Face, l ...int) api.Face {
	f.Chars = chars(l...)
	return f
}

// copied is a face that shares nothing with the one it is made of, but texts.
func copied(f api.Face) api.Face {
	f.M.Advance, f.M.Bearing = slices.Clone(f.M.Advance), slices.Clone(f.M.Bearing)
	f.Glyphs, f.Chars = slices.Clone(f.Glyphs), slices.Clone(f.Chars)
	return f
}

func same(a, b api.Face) bool {
	return a.M.Upem == b.M.Upem && a.M.Ascent == b.M.Ascent && a.M.Descent == b.M.Descent && a.M.Gap == b.M.Gap && a.M.Box == b.M.Box && a.M.Long == b.M.Long &&
		slices.Equal(a.M.Advance, b.M.Advance) && slices.Equal(a.M.Bearing, b.M.Bearing) && slices.Equal(a.Glyphs, b.Glyphs) && slices.Equal(a.Chars, b.Chars)
}

// modelClose asks all glyphs, again and again, until none is new.
func modelClose(f api.Face, used []int) ([]int, api.Errno) {
	if err := face.Check(f); err != api.OK {
		return nil, err
	}
	in := map[int]bool{0: true}
	for _, g := range used {
		if g < 0 || g > len(f.M.Advance)-1 {
			return nil, api.ErrArg
		}
		in[g] = true
	}
	for count := 0; count != len(in); {
		count = len(in)
		for g, text := range f.Glyphs {
			if parts, _ := glyph.Parts(text); in[g] {
				for _, p := range parts {
					in[p] = true
				}
			}
		}
	}
	return slices.Sorted(maps.Keys(in)), api.OK
}

// modelRenumber goes through the components by itself.
func modelRenumber(g string, numbers map[int]int) string {
	if !strings.HasPrefix(g, "\xff\xff") {
		return g
	}
	text := g[:10]
	for g = g[10:]; ; {
		flags, number := int(g[0])<<8|int(g[1]), int(g[2])<<8|int(g[3])
		size := 6
		for bit, more := range map[int]int{1: 2, 8: 2, 64: 4, 128: 8} {
			if flags&bit != 0 {
				size += more
			}
		}
		text += g[:2] + two(numbers[number]) + g[4:size]
		if g = g[size:]; flags&32 == 0 {
			return text + g
		}
	}
}

// modelChars asks each code point that the face shows.
func modelChars(f api.Face, numbers map[int]int) []api.Chars {
	sent := map[int]int{}
	for _, x := range f.Chars {
		for c := x.First; c <= x.Last; c++ {
			if g, ok := numbers[x.Glyph+c-x.First]; ok {
				sent[c] = g
			}
		}
	}
	var l []api.Chars
	for _, c := range slices.Sorted(maps.Keys(sent)) {
		if ahead, there := sent[c-1]; !there || ahead != sent[c]-1 {
			l = append(l, api.Chars{First: c, Glyph: sent[c]})
		}
		l[len(l)-1].Last = c
	}
	return l
}

func modelMake(f api.Face, used []int) (api.Face, []int, api.Errno) {
	old, err := modelClose(f, used)
	if err != api.OK {
		return api.Face{}, nil, err
	}
	numbers := map[int]int{}
	for i, g := range old {
		numbers[g] = i
	}
	part := api.Face{M: api.Metrics{Upem: f.M.Upem, Ascent: f.M.Ascent, Descent: f.M.Descent, Gap: f.M.Gap, Box: f.M.Box, Long: true}, Chars: modelChars(f, numbers)}
	if len(part.Chars) > 4096 {
		return api.Face{}, nil, api.ErrCmap
	}
	for _, g := range old {
		part.M.Advance, part.M.Bearing = append(part.M.Advance, f.M.Advance[g]), append(part.M.Bearing, f.M.Bearing[g])
		part.Glyphs = append(part.Glyphs, modelRenumber(f.Glyphs[g], numbers))
	}
	return part, old, api.OK
}

// tell is how something is shown: its beginning.
func tell(x any) string {
	s := fmt.Sprint(x)
	if f, ok := x.(api.Face); ok {
		s = fmt.Sprintf("glyphs %x, %v, %+v", f.Glyphs, f.Chars, f.M)
	}
	return s[:min(len(s), 400)]
}

// closed fails, unless the glyphs that are needed are these.
func closed(t *testing.T, what string, f api.Face, used []int, want ...int) {
	t.Helper()
	if l, err := subset.Close(f, used); !slices.Equal(l, want) || err != api.OK {
		t.Errorf("%s: Close(%s; %s) is %s, %v; asked: %s", what, tell(f), tell(used), tell(l), err, tell(want))
	}
	if l, err := modelClose(f, used); !slices.Equal(l, want) || err != api.OK {
		t.Errorf("%s: this test's own way tells %s, %v; asked: %s", what, tell(l), err, tell(want))
	}
	kept(t, what, f, used)
}

// refused fails, unless Close and Make answer that error, and nothing beside.
func refused(t *testing.T, what string, f api.Face, used []int, want api.Errno) {
	t.Helper()
	if l, err := subset.Close(f, used); l != nil || err != want {
		t.Errorf("%s: Close(%s; %s) is %s, %v; asked: %v", what, tell(f), tell(used), tell(l), err, want)
	}
	unmade(t, what, f, used, want)
}

// unmade fails, unless Make answers that error, and nothing beside.
func unmade(t *testing.T, what string, f api.Face, used []int, want api.Errno) {
	t.Helper()
	part, old, err := subset.Make(f, used)
	if !nothing(part) || old != nil || err != want {
		t.Errorf("%s: Make(%s; %s) is %s, %s, %v; asked: %v", what, tell(f), tell(used), tell(part), tell(old), err, want)
	}
	if _, _, err := modelMake(f, used); err != want {
		t.Errorf("%s: this test's own way tells %v; asked: %v", what, err, want)
	}
}

// nothing tells whether a face is the one beside an error.
func nothing(f api.Face) bool {
	return same(f, api.Face{}) && f.M.Advance == nil && f.M.Bearing == nil && f.Glyphs == nil && f.Chars == nil
}

// shows fails, unless the part has just these characters, in threes.
func shows(t *testing.T, what string, f api.Face, used []int, want ...int) {
	t.Helper()
	part := kept(t, what, f, used)
	if !slices.Equal(part.Chars, chars(want...)) {
		t.Errorf("%s: Make(%s; %s) has %s; asked: %s", what, tell(f.Chars), tell(used), tell(part.Chars), tell(want))
	}
}

// kept fails, unless Make tells what the test's own way does, and all holds of
// it that the chapter says.
func kept(t *testing.T, what string, f api.Face, used []int) api.Face {
	t.Helper()
	part, old, err := subset.Make(f, used)
	want, wantOld, wantErr := modelMake(f, used)
	if !same(part, want) || !slices.Equal(old, wantOld) || err != wantErr {
		t.Fatalf("%s: Make(%s; %s) is %s, %s, %v; asked: %s, %s, %v", what, tell(f), tell(used), tell(part), tell(old), err, tell(want), tell(wantOld), wantErr)
	}
	if err != api.OK {
		t.Fatalf("%s: %v", what, err)
	}
	if err := face.Check(part); err != api.OK {
		t.Errorf("%s: the part may not be: %v", what, err)
	}
	all := upTo(0, len(old)-1)
	if again, numbers, err := subset.Make(part, all); !same(again, part) || !slices.Equal(numbers, all) || err != api.OK {
		t.Errorf("%s: made again, %s is %s, %s, %v", what, tell(part), tell(again), tell(numbers), err)
	}
	for i, g := range old {
		if at, ok := subset.Place(old, g); at != i || !ok {
			t.Errorf("%s: Place(%s, %d) is %d, %v", what, tell(old), g, at, ok)
		}
		alike(t, fmt.Sprint(what, ", glyph ", g), f, part, old, i)
	}
	return part
}

// alike fails, unless a glyph of a part is the one that it was.
func alike(t *testing.T, what string, f, part api.Face, old []int, i int) {
	t.Helper()
	was, is := f.Glyphs[old[i]], part.Glyphs[i]
	points, _ := glyph.Points(was)
	if now, err := glyph.Points(is); now != points || err != api.OK {
		t.Errorf("%s: it had %d points, now %d, %v", what, points, now, err)
	}
	parts, _ := glyph.Parts(was)
	now, err := glyph.Parts(is)
	for j := range now {
		now[j] = old[now[j]]
	}
	if !slices.Equal(now, parts) || err != api.OK || len(is) != len(was) {
		t.Errorf("%s: it was made of %v, now of what was %v, %v", what, parts, now, err)
	}
	if part.M.Advance[i] != f.M.Advance[old[i]] || part.M.Bearing[i] != f.M.Bearing[old[i]] {
		t.Errorf("%s: its advance and its bearing are %d, %d", what, part.M.Advance[i], part.M.Bearing[i])
	}
}

// everyCode fails, unless each number that may be a code point is shown by the
// part just if the face shows it by a glyph of it, and then by that one.
func everyCode(t *testing.T, what string, f api.Face, used []int) {
	t.Helper()
	part, old, err := subset.Make(f, used)
	if err != api.OK {
		t.Fatalf("%s: %v", what, err)
	}
	for c := range 0x110000 {
		g := cmap.Find(f.Chars, c)
		want := 0
		if g != 0 {
			want = max(0, slices.Index(old, g))
		}
		if got := cmap.Find(part.Chars, c); got != want {
			t.Fatalf("%s: %d was shown by %d; now by %d; asked: %d", what, c, g, got, want)
		}
	}
}

// numbers are as if by chance, and hang on the seed alone.
func numbers(seed int) func(below int) int {
	x := uint64(seed)*2654435761 + 1
	return func(below int) int {
		x = x*6364136223846793005 + 1442695040888963407
		return int(x>>33) % below
	}
}
