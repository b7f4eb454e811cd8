package unimap_test

import (
	"fmt"
	"maps"
	"math"
	"slices"
	"strconv"
	"strings"
	"testing"
	"unicode/utf16"

	"colophon/api"
	"colophon/cmap"
	"colophon/obj"
	"colophon/unimap"
)

// The chapter's words once more, in another way.

const (
	least = math.MinInt
	most  = math.MaxInt
)

// number is the object of an integer.
func number(x int) api.Obj { return api.Obj{Kind: api.KInt, Num: x} }

func array(items ...api.Obj) api.Obj { return api.Obj{Kind: api.KArray, Items: items} }

// widths is the array of these widths.
func widths(l ...int) api.Obj {
	var items []api.Obj
	for _, x := range l {
		items = append(items, number(x))
	}
	return array(number(0), array(items...))
}

// sized is good metrics with these advances.
func sized(upem int, advances ...int) api.Metrics {
	return api.Metrics{Upem: upem, Ascent: 800, Descent: -200, Gap: 90, Box: [4]int{-1, -2, 3, 4}, Advance: advances, Bearing: make([]int, len(advances))}
}

// modelWidth is the nearest whole number to advance * 1000 / upem: it goes up
// from 0 until the next one is no nearer; of two that are as near the greater.
func modelWidth(advance, upem int) int {
	far := func(w int) int { return max(w*upem-advance*1000, advance*1000-w*upem) }
	w := max(0, advance*1000/upem-3)
	for far(w+1) <= far(w) {
		w++
	}
	return w
}

func modelWidths(m api.Metrics) []int {
	var l []int
	for _, x := range m.Advance {
		l = append(l, modelWidth(x, m.Upem))
	}
	return l
}

// isPoint is chapter 4's code point.
func isPoint(c int) bool { return c >= 0 && c < 0xd800 || c > 0xdfff && c < 0x110000 }

// modelPairs asks each code point up to the last one of these.
func modelPairs(l []api.Chars, last int) []api.Pair {
	shown := map[int]int{}
	for c := last; c >= 0; c-- {
		if isPoint(c) {
			shown[cmap.Find(l, c)] = c
		}
	}
	delete(shown, 0)
	var pairs []api.Pair
	for _, g := range slices.Sorted(maps.Keys(shown)) {
		pairs = append(pairs, api.Pair{Glyph: g, Code: shown[g]})
	}
	return pairs
}

const (
	head = "/CIDInit /ProcSet findresource begin\n12 dict begin\nbegincmap\n/CMapName /U def\n/CMapType 2 def\n1 begincodespacerange\n<0000> <ffff>\nendcodespacerange\n"
	tail = "endcmap\nend\nend\n"
)

// block is what stands around these lines of pairs.
func block(lines ...string) string {
	return fmt.Sprintf("%d beginbfchar\n%s\nendbfchar\n", len(lines), strings.Join(lines, "\n"))
}

func whole(blocks ...string) string { return head + strings.Join(blocks, "") + tail }

func modelMay(l []api.Pair) bool {
	for i, p := range l {
		if p.Glyph < 0 || p.Glyph >= 1<<16 || !isPoint(p.Code) || i > 0 && l[i-1].Glyph >= p.Glyph {
			return false
		}
	}
	return len(l) < 4097
}

func modelLine(p api.Pair) string {
	high, low := utf16.EncodeRune(rune(p.Code))
	if high == 0xfffd {
		return fmt.Sprintf("<%04x> <%04x>", p.Glyph, p.Code)
	}
	return fmt.Sprintf("<%04x> <%04x%04x>", p.Glyph, high, low)
}

// modelWrite tells the text of a list, and whether it has one.
func modelWrite(l []api.Pair) (string, bool) {
	if !modelMay(l) {
		return "", false
	}
	var blocks, lines []string
	for i, p := range l {
		lines = append(lines, modelLine(p))
		if i%100 == 99 || i == len(l)-1 {
			blocks = append(blocks, block(lines...))
			lines = nil
		}
	}
	return whole(blocks...), true
}

// modelRead takes whatever looks like a pair, and asks whether that list's text
// is the one that is read.
func modelRead(s string) ([]api.Pair, bool) {
	if !strings.HasPrefix(s, head) || !strings.HasSuffix(s, tail) {
		return nil, false
	}
	var l []api.Pair
	for i, line := range strings.Split(s, "\n") {
		if i < 8 || !strings.HasPrefix(line, "<") || len(line) != 13 && len(line) != 17 {
			continue
		}
		glyph, _ := strconv.ParseInt(line[1:5], 16, 64)
		code, _ := strconv.ParseInt(line[8:12], 16, 64)
		if len(line) == 17 {
			low, _ := strconv.ParseInt(line[12:16], 16, 64)
			code = int64(utf16.DecodeRune(rune(code), rune(low)))
		}
		l = append(l, api.Pair{Glyph: int(glyph), Code: int(code)})
	}
	if text, ok := modelWrite(l); !ok || text != s {
		return nil, false
	}
	return l, true
}

// pairs is a list of twos: Glyph, Code.
func pairs(l ...int) []api.Pair {
	var out []api.Pair
	for x := range slices.Chunk(l, 2) {
		out = append(out, api.Pair{Glyph: x[0], Code: x[1]})
	}
	return out
}

// some is a list of so many pairs, of all kinds of code points.
func some(n int) []api.Pair {
	codes := []int{97, 0, 0xd7ff, 0xe000, 0xffff, 0x10000, 0x10ffff, 0xabcd, 0x1f600, 10}
	var l []api.Pair
	for i := range n {
		l = append(l, api.Pair{Glyph: 3 + 15*i, Code: codes[i%len(codes)]})
	}
	return l
}

// chars is a list of threes: First, Last, Glyph.
func chars(l ...int) []api.Chars {
	var out []api.Chars
	for x := range slices.Chunk(l, 3) {
		out = append(out, api.Chars{First: x[0], Last: x[1], Glyph: x[2]})
	}
	return out
}

// tell is how something is shown: its beginning.
func tell(x any) string {
	s := fmt.Sprintf("%+v", x)
	if text, ok := x.(string); ok {
		s = strconv.Quote(text)
	}
	return s[:min(len(s), 400)]
}

// wide fails, unless the widths of metrics are these, and are read back.
func wide(t *testing.T, what string, m api.Metrics, want ...int) {
	t.Helper()
	o, err := unimap.Widths(m)
	if !obj.Same(o, widths(want...)) || err != api.OK {
		t.Errorf("%s: Widths(%s) is %s, %v; asked: %s", what, tell(m), tell(o), err, tell(want))
	}
	if l := modelWidths(m); !slices.Equal(l, want) {
		t.Errorf("%s: this test's own way tells %s; asked: %s", what, tell(l), tell(want))
	}
	if !obj.Good(o) {
		t.Errorf("%s: Widths(%s) is not good", what, tell(m))
	}
	widthsAre(t, what, o, want...)
}

// unmeasured fails, unless metrics have no widths.
func unmeasured(t *testing.T, what string, m api.Metrics) {
	t.Helper()
	if o, err := unimap.Widths(m); !empty(o) || err != api.ErrHead {
		t.Errorf("%s: Widths(%s) is %s, %v; asked: ErrHead", what, tell(m), tell(o), err)
	}
}

// empty tells whether an object is the one beside an error.
func empty(o api.Obj) bool {
	return obj.Same(o, api.Obj{}) && o.Keys == nil && o.Items == nil
}

// widthsAre fails, unless an object is read as these widths.
func widthsAre(t *testing.T, what string, o api.Obj, want ...int) {
	t.Helper()
	if l, err := unimap.ReadWidths(o); !slices.Equal(l, want) || err != api.OK {
		t.Errorf("%s: ReadWidths(%s) is %s, %v; asked: %s", what, tell(o), tell(l), err, tell(want))
	}
}

// noWidths fails, unless an object is read as none.
func noWidths(t *testing.T, what string, o api.Obj) {
	t.Helper()
	if l, err := unimap.ReadWidths(o); l != nil || err != api.ErrUni {
		t.Errorf("%s: ReadWidths(%s) is %s, %v; asked: ErrUni", what, tell(o), tell(l), err)
	}
}

// shown fails, unless the pairs of these characters are those, in twos.
func shown(t *testing.T, what string, l []api.Chars, want ...int) {
	t.Helper()
	if got := unimap.Pairs(api.Face{Chars: l}); !slices.Equal(got, pairs(want...)) {
		t.Errorf("%s: Pairs(%s) is %s; asked: %s", what, tell(l), tell(got), tell(want))
	}
	if got := modelPairs(l, 0x10ffff); !slices.Equal(got, pairs(want...)) {
		t.Errorf("%s: this test's own way tells %s; asked: %s", what, tell(got), tell(want))
	}
}

// written fails, unless a list's text is the one of this test's own way, and is
// read as the list.
func written(t *testing.T, what string, l []api.Pair) string {
	t.Helper()
	want, ok := modelWrite(l)
	s, err := unimap.Write(l)
	if s != want || !ok || err != api.OK {
		t.Fatalf("%s: Write(%s) is %s, %v; asked: %s", what, tell(l), tell(s), err, tell(want))
	}
	back, err := unimap.Read(s)
	if !slices.Equal(back, l) || err != api.OK {
		t.Errorf("%s: Read(Write(%s)) is %s, %v", what, tell(l), tell(back), err)
	}
	return s
}

// unwritten fails, unless a list has no text.
func unwritten(t *testing.T, what string, l []api.Pair) {
	t.Helper()
	if s, err := unimap.Write(l); s != "" || err != api.ErrUni {
		t.Errorf("%s: Write(%s) is %s, %v; asked: ErrUni", what, tell(l), tell(s), err)
	}
	if modelMay(l) {
		t.Errorf("%s: by this test's own way %s has a text", what, tell(l))
	}
}

// unread fails, unless a text is no list's.
func unread(t *testing.T, what string, s string) {
	t.Helper()
	if l, err := unimap.Read(s); l != nil || err != api.ErrUni {
		t.Errorf("%s: Read(%s) is %s, %v; asked: ErrUni", what, tell(s), tell(l), err)
	}
	if l, ok := modelRead(s); ok {
		t.Errorf("%s: by this test's own way %s is the text of %s", what, tell(s), tell(l))
	}
}

// either fails, unless a text is read as this test's own way reads it. It tells
// whether it is a list's.
func either(t *testing.T, what string, s string) bool {
	t.Helper()
	want, ok := modelRead(s)
	l, err := unimap.Read(s)
	if !ok {
		if l != nil || err != api.ErrUni {
			t.Errorf("%s: Read(%s) is %s, %v; asked: ErrUni", what, tell(s), tell(l), err)
		}
		return false
	}
	if !slices.Equal(l, want) || err != api.OK {
		t.Errorf("%s: Read(%s) is %s, %v; asked: %s", what, tell(s), tell(l), err, tell(want))
	}
	if again, err := unimap.Write(l); again != s || err != api.OK {
		t.Errorf("%s: Write(Read(%s)) is %s, %v", what, tell(s), tell(again), err)
	}
	return true
}

// numbers are as if by chance, and hang on the seed alone.
func numbers(seed int) func(below int) int {
	x := uint64(seed)*2654435761 + 1
	return func(below int) int {
		x = x*6364136223846793005 + 1442695040888963407
		return int(x>>33) % below
	}
}
