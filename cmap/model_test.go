package cmap_test

import (
	"encoding/binary"
	"fmt"
	"maps"
	"math"
	"math/big"
	"slices"
	"strings"
	"testing"

	"colophon/api"
	"colophon/cmap"
)

// The chapter's words once more, in another way.

const (
	least = math.MinInt
	most  = math.MaxInt
)

func two(l ...int) string {
	var b []byte
	for _, x := range l {
		b = binary.BigEndian.AppendUint16(b, uint16(x))
	}
	return string(b)
}

func four(l ...int) string {
	var b []byte
	for _, x := range l {
		b = binary.BigEndian.AppendUint32(b, uint32(x))
	}
	return string(b)
}

// chars is a list of threes: First, Last, Glyph.
func chars(l ...int) []api.Chars {
	var out []api.Chars
	for x := range slices.Chunk(l, 3) {
		out = append(out, api.Chars{First: x[0], Last: x[1], Glyph: x[2]})
	}
	return out
}

func isPoint(c int) bool { return c >= 0 && c <= 1114111 && (c < 55296 || c > 57343) }

// groups is format 12 in its fields, each of which may be set otherwise.
type groups struct {
	format string
	length int
	free   string
	count  int
	list   []int
}

// grouped is format 12 of threes: first, last, glyph.
func grouped(list ...int) groups {
	return groups{"\x00\x0c\x00\x00", 16 + 4*len(list), "\x00\x00\x00\x00", len(list) / 3, list}
}

func (g groups) text() string {
	return g.format + four(g.length) + g.free + four(g.count) + four(g.list...)
}

// segments is format 4 in its fields, each of which may be set otherwise.
type segments struct {
	format string
	length int
	free   string
	twice  int
	search string
	lasts  []int
	gap    string
	firsts []int
	ds, os []int
	behind string
}

// segmented is format 4 of fours: first, last, d, o.
func segmented(list ...int) segments {
	m := len(list) / 4
	s := segments{format: "\x00\x04", length: 16 + 8*m, free: "\x00\x00", twice: 2 * m, search: searching(m), gap: "\x00\x00"}
	for x := range slices.Chunk(list, 4) {
		s.firsts, s.lasts, s.ds, s.os = append(s.firsts, x[0]), append(s.lasts, x[1]), append(s.ds, x[2]), append(s.os, x[3])
	}
	return s
}

// ended is segmented, with the segment that is asked for at the end.
func ended(list ...int) segments {
	return segmented(append(slices.Clone(list), 65535, 65535, 1, 0)...)
}

// and is the same with numbers of two bytes behind its lists.
func (s segments) and(numbers ...int) segments {
	s.behind = two(numbers...)
	s.length += len(s.behind)
	return s
}

func (s segments) text() string {
	return s.format + two(s.length) + s.free + two(s.twice) + s.search + two(s.lasts...) + s.gap + two(s.firsts...) + two(s.ds...) + two(s.os...) + s.behind
}

// searching are the 6 bytes of so many segments.
func searching(m int) string {
	p, q := 1, 0
	for 2*p <= m {
		p, q = 2*p, q+1
	}
	return two(2*p, q, 2*m-2*p)
}

// row is a row with the map that stands at its place.
type row struct {
	platform, encoding int
	body               string
}

// table has a row for each, and their maps one behind the other.
func table(rows ...row) string {
	head, bodies := two(0, len(rows)), ""
	for _, r := range rows {
		head += two(r.platform, r.encoding) + four(4+8*len(rows)+len(bodies))
		bodies += r.body
	}
	return head + bodies
}

func wide(list ...int) string           { return table(row{3, 10, grouped(list...).text()}) }
func (g groups) table() string          { return table(row{3, 10, g.text()}) }
func (s segments) table() string        { return table(row{3, 1, s.text()}) }
func turned(s string, at, b int) string { return s[:at] + string([]byte{byte(b)}) + s[at+1:] }

// cursor reads numbers; it is short, if more was asked of it than there was.
type cursor struct {
	s     string
	short bool
}

func (c *cursor) number(size int) int {
	if len(c.s) < size {
		c.s, c.short = "", true
		return 0
	}
	x := 0
	for _, b := range []byte(c.s[:size]) {
		x = 256*x + int(b)
	}
	c.s = c.s[size:]
	return x
}

func (c *cursor) numbers(count, size int) []int {
	l := make([]int, count)
	for i := range l {
		l[i] = c.number(size)
	}
	return l
}

// modelMap is what a table sends code points to, those sent to 0 too, and
// whether it is right.
func modelMap(t string, n int) (map[int]int, bool) {
	c := &cursor{s: t}
	version, k := c.number(2), c.number(2)
	if version != 0 || len(c.s) < 8*k {
		return nil, false
	}
	places := map[string][]int{}
	for range k {
		platform, encoding, place := c.number(2), c.number(2), c.number(4)
		switch fmt.Sprint(platform, "/", encoding) {
		case "3/10", "0/4":
			places["wide"] = append(places["wide"], place)
		case "3/1", "0/0", "0/1", "0/2", "0/3":
			places["narrow"] = append(places["narrow"], place)
		}
	}
	for _, kind := range []string{"wide", "narrow"} {
		if len(places[kind]) == 0 {
			continue
		}
		if places[kind][0] > len(t) {
			return nil, false
		}
		body := t[places[kind][0]:]
		if kind == "wide" {
			return modelGroups(body, n)
		}
		return modelSegments(body, n)
	}
	return nil, false
}

func modelGroups(s string, n int) (map[int]int, bool) {
	c := &cursor{s: s}
	format, length := c.number(4), c.number(4)
	c.number(4)
	m := c.number(4)
	if c.short || format != 0x000c0000 || m > 4096 || length != 16+12*m || length > len(s) {
		return nil, false
	}
	sent := map[int]int{}
	list := slices.Collect(slices.Chunk(c.numbers(3*m, 4), 3))
	for i, g := range list {
		if g[0] > g[1] || i > 0 && g[0] <= list[i-1][1] || g[1] > 1114111 || g[2]+g[1]-g[0] >= n {
			return nil, false
		}
		for x := g[0]; x <= g[1]; x++ {
			if isPoint(x) {
				sent[x] = g[2] + x - g[0]
			}
		}
	}
	return sent, true
}

// modelSegments asks first what is asked of the lists, then of each code point
// that is in one.
func modelSegments(s string, n int) (map[int]int, bool) {
	c := &cursor{s: s}
	format, length := c.number(2), c.number(2)
	c.number(2)
	twice := c.number(2)
	c.numbers(3, 2)
	if c.short || format != 4 || length > len(s) || twice < 2 || twice%2 == 1 || length < 16+4*twice {
		return nil, false
	}
	m := twice / 2
	lasts := c.numbers(m, 2)
	c.number(2)
	firsts, ds, os := c.numbers(m, 2), c.numbers(m, 2), c.numbers(m, 2)
	for i := range m {
		if firsts[i] > lasts[i] || i > 0 && firsts[i] <= lasts[i-1] {
			return nil, false
		}
	}
	if lasts[m-1] != 65535 {
		return nil, false
	}
	sent := map[int]int{}
	for i := range m {
		for x := firsts[i]; x <= min(lasts[i], 65534); x++ {
			if x >= 55296 && x <= 57343 {
				continue
			}
			g := x
			if os[i] != 0 {
				at := 16 + 6*m + 2*i + os[i] + 2*(x-firsts[i])
				if os[i]%2 == 1 || at+2 > length {
					return nil, false
				}
				g = 256*int(s[at]) + int(s[at+1])
			}
			if os[i] != 0 && g == 0 {
				sent[x] = 0
				continue
			}
			sent[x] = (g + ds[i]) & 65535
			if sent[x] >= n {
				return nil, false
			}
		}
	}
	return sent, true
}

// modelList is a map's list: a new span begins where the code point ahead is
// not sent to the glyph ahead.
func modelList(sent map[int]int) []api.Chars {
	var l []api.Chars
	for _, x := range slices.Sorted(maps.Keys(sent)) {
		g := sent[x]
		if g == 0 {
			continue
		}
		if ahead, there := sent[x-1]; !there || g == 1 || ahead != g-1 {
			l = append(l, api.Chars{First: x, Glyph: g})
		}
		l[len(l)-1].Last = x
	}
	return l
}

func modelRead(t string, n int) ([]api.Chars, api.Errno) {
	if n < 1 || n > 4096 {
		return nil, api.ErrArg
	}
	sent, ok := modelMap(t, n)
	l := modelList(sent)
	if !ok || len(l) > 4096 {
		return nil, api.ErrCmap
	}
	return l, api.OK
}

// glyphAt is Glyph + c - First, without bounds.
func glyphAt(x api.Chars, c int) *big.Int {
	g := big.NewInt(int64(x.Glyph))
	return g.Add(g, big.NewInt(int64(c))).Sub(g, big.NewInt(int64(x.First)))
}

func modelGood(l []api.Chars, n int) bool {
	if len(l) > 4096 {
		return false
	}
	for i, x := range l {
		if x.First > x.Last || x.First < 0 || x.Last > 1114111 || x.Glyph < 1 || glyphAt(x, x.Last).Cmp(big.NewInt(int64(n))) >= 0 {
			return false
		}
		for c := x.First; c <= x.Last; c++ {
			if !isPoint(c) {
				return false
			}
		}
		if i == 0 {
			continue
		}
		ahead := l[i-1]
		if x.First <= ahead.Last || x.First == ahead.Last+1 && glyphAt(ahead, x.First).Cmp(big.NewInt(int64(x.Glyph))) == 0 {
			return false
		}
	}
	return true
}

func modelFind(l []api.Chars, c int) int {
	for _, x := range l {
		if x.First <= c && c <= x.Last {
			if g := glyphAt(x, c); g.Sign() > 0 && g.Cmp(big.NewInt(4096)) < 0 {
				return int(g.Int64())
			}
			return 0
		}
	}
	return 0
}

func modelBuild(l []api.Chars, isWide bool) (string, api.Errno) {
	if !modelGood(l, 4096) {
		return "", api.ErrCmap
	}
	var list []int
	if isWide {
		for _, x := range l {
			list = append(list, x.First, x.Last, x.Glyph)
		}
		return wide(list...), api.OK
	}
	if len(l) > 4095 || slices.ContainsFunc(l, func(x api.Chars) bool { return x.Last > 65534 }) {
		return "", api.ErrCmap
	}
	for _, x := range l {
		list = append(list, x.First, x.Last, (x.Glyph-x.First+65536)%65536, 0)
	}
	return ended(list...).table(), api.OK
}

// tell is how something is shown: its beginning.
func tell(x any) string {
	s := fmt.Sprint(x)
	if text, ok := x.(string); ok {
		s = fmt.Sprintf("%x", text)
	}
	return s[:min(len(s), 400)]
}

// right fails, unless a table is read as this list, by the program and by the
// test's own reader, and Find tells the same of the code points as the latter.
func right(t *testing.T, what, s string, n int, want ...int) {
	t.Helper()
	rightList(t, what, s, n, chars(want...))
}

func rightList(t *testing.T, what, s string, n int, want []api.Chars) {
	t.Helper()
	l, err := cmap.Read(s, n)
	if !slices.Equal(l, want) || err != api.OK {
		t.Errorf("%s: Read(%s, %d) is %s, %v; asked: %s", what, tell(s), n, tell(l), err, tell(want))
	}
	if own, err := modelRead(s, n); !slices.Equal(own, want) || err != api.OK {
		t.Errorf("%s: %s: this test's own reader tells %s, %v", what, tell(s), tell(own), err)
	}
	if !cmap.Good(l, n) || !modelGood(l, n) {
		t.Errorf("%s: Read(%s, %d) is %s, which is not good", what, tell(s), n, tell(l))
	}
}

// wrong fails, unless a table is refused, with nothing beside the error.
func wrong(t *testing.T, what, s string, n int) {
	t.Helper()
	refused(t, what, s, n, api.ErrCmap)
}

func refused(t *testing.T, what, s string, n int, want api.Errno) {
	t.Helper()
	if l, err := cmap.Read(s, n); len(l) != 0 || err != want {
		t.Errorf("%s: Read(%s, %d) is %s, %v; asked: %v", what, tell(s), n, tell(l), err, want)
	}
	if l, err := modelRead(s, n); len(l) != 0 || err != want {
		t.Errorf("%s: %s: this test's own reader tells %s, %v", what, tell(s), tell(l), err)
	}
}

// alike fails, unless a table is taken or refused as by the test's own reader;
// it tells whether it is taken.
func alike(t *testing.T, what, s string, n int) bool {
	t.Helper()
	l, err := modelRead(s, n)
	if err != api.OK {
		refused(t, what, s, n, err)
		return false
	}
	rightList(t, what, s, n, l)
	return true
}

// found fails, unless Find tells what a table sends code points to: all, if
// every, else those that are sent somewhere, and those beside them.
func found(t *testing.T, what, s string, n int, every bool) {
	t.Helper()
	l, err := cmap.Read(s, n)
	sent, ok := modelMap(s, n)
	if err != api.OK || !ok {
		t.Fatalf("%s: Read(%s, %d): %v; this test's own reader tells %v", what, tell(s), n, err, ok)
	}
	ask := func(c int) {
		if g := cmap.Find(l, c); g != sent[c] {
			t.Fatalf("%s: Find(%s, %d) is %d; asked: %d", what, tell(l), c, g, sent[c])
		}
	}
	for c := range sent {
		ask(c - 1)
		ask(c)
		ask(c + 1)
	}
	for c := -2; every && c <= 1114113; c++ {
		ask(c)
	}
}

// many holds tables that are made as if by chance against the test's own
// reader, some of them with more bytes or with one turned.
func many(t *testing.T, made func(next func(int) int) (string, int)) {
	t.Helper()
	const all = 20000
	taken := 0
	for seed := range all {
		next := numbers(seed)
		s, n := made(next)
		s += strings.Repeat("\x00", next(2)*next(20))
		if next(10) == 0 {
			s = turned(s, next(len(s)), next(256))
		}
		what := fmt.Sprint("seed ", seed)
		if alike(t, what, s, n) {
			taken++
			found(t, what, s, n, false)
		}
	}
	if taken < all/7 || taken > all-all/7 {
		t.Errorf("%d of %d taken: too few of one kind", taken, all)
	}
}

// good fails, unless a list is good, or not, as is said.
func good(t *testing.T, what string, l []api.Chars, n int, want bool) {
	t.Helper()
	if got := cmap.Good(l, n); got != want {
		t.Errorf("%s: Good(%s, %d) is %v", what, tell(l), n, got)
	}
	if got := modelGood(l, n); got != want {
		t.Errorf("%s: this test's own judge tells %v of %s, %d", what, got, tell(l), n)
	}
}

// built fails, unless a table is made of a list, or refused, as by the test's
// own builder, and is read back as the list.
func built(t *testing.T, what string, l []api.Chars, isWide bool) string {
	t.Helper()
	want, wantErr := modelBuild(l, isWide)
	s, err := cmap.Build(l, isWide)
	if s != want || err != wantErr {
		t.Fatalf("%s: Build(%s, %v) is %s, %v; asked: %s, %v", what, tell(l), isWide, tell(s), err, tell(want), wantErr)
	}
	if err == api.OK {
		rightList(t, what+", read again", s, 4096, l)
	}
	return s
}

// numbers are as if by chance, and hang on the seed alone.
func numbers(seed int) func(below int) int {
	x := uint64(seed)*2654435761 + 1
	return func(below int) int {
		x = x*6364136223846793005 + 1442695040888963407
		return int(x>>33) % below
	}
}

// upTo are the numbers from one to another.
func upTo(from, to int) []int {
	var l []int
	for x := from; x <= to; x++ {
		l = append(l, x)
	}
	return l
}

// apartFrom is so many spans of one code point each, with one between.
func apartFrom(first, count int) []api.Chars {
	var l []api.Chars
	for i := range count {
		l = append(l, api.Chars{First: first + 2*i, Last: first + 2*i, Glyph: 1 + i%4095})
	}
	return l
}

// flat is a list as threes.
func flat(l []api.Chars) []int {
	var out []int
	for _, x := range l {
		out = append(out, x.First, x.Last, x.Glyph)
	}
	return out
}

// hexes is a text as it is written in the chapter.
func hexes(s string) string {
	return strings.TrimSpace(fmt.Sprintf("% x", s))
}
