package glyph

import (
	"encoding/binary"
	"fmt"
	"math"
	"slices"
	"strings"
	"testing"

	"colophon/api"
)

// The chapter's words once more, in another way.

const (
	least = math.MinInt
	most  = math.MaxInt
)

func one(x int) string  { return string([]byte{byte(x)}) }
func two(x int) string  { return string(binary.BigEndian.AppendUint16(nil, uint16(x))) }
func four(x int) string { return string(binary.BigEndian.AppendUint32(nil, uint32(x))) }

func zeros(n int) string { return strings.Repeat("\x00", n) }

// bytes is a text of so many, none of them 0.
func bytes(n int) string {
	return strings.Repeat("\x01\x7f\x80\xff\x37", n/5+1)[:n]
}

// told is what a glyph is asked for: its points, its parts, where these stand.
type told struct {
	points int
	parts  []int
	places []int
}

// rest is what of a glyph is not yet read; it is short, if more was asked of it
// than there was.
type rest struct {
	s     string
	short bool
}

func (r *rest) cut(n int) string {
	if n > len(r.s) {
		r.s, r.short = "", true
		return zeros(n)
	}
	head := r.s[:n]
	r.s = r.s[n:]
	return head
}

func (r *rest) two() int {
	s := r.cut(2)
	return 256*int(s[0]) + int(s[1])
}

// model is what a glyph tells, and whether it is empty or right.
func model(g string) (told, bool) {
	if g == "" {
		return told{}, true
	}
	r := &rest{s: g}
	c := r.two()
	r.cut(8)
	var x told
	ok := false
	switch {
	case c == 65535:
		x, ok = modelComposite(r, len(g))
	case c >= 1 && c <= 32767:
		x, ok = modelSimple(r, c)
	}
	if !ok || r.short || strings.Count(r.s, "\x00") != len(r.s) {
		return told{}, false
	}
	return x, true
}

// modelSimple lays the flags out, one a point, and then goes through them once
// for each coordinate.
func modelSimple(r *rest, c int) (told, bool) {
	if len(r.s) < 2*c {
		return told{}, false
	}
	var ends []int
	for range c {
		ends = append(ends, r.two())
	}
	for i := range ends[1:] {
		if ends[i] >= ends[i+1] {
			return told{}, false
		}
	}
	p := ends[c-1] + 1
	r.cut(r.two())
	var flags []byte
	for len(flags) < p && !r.short {
		f := r.cut(1)[0]
		flags = append(flags, f)
		if f>>3&1 == 1 {
			flags = append(flags, slices.Repeat([]byte{f}, int(r.cut(1)[0]))...)
		}
	}
	if len(flags) != p {
		return told{}, false
	}
	for _, bits := range [][2]byte{{1, 4}, {2, 5}} {
		for _, f := range flags {
			if f>>bits[0]&1 == 1 {
				r.cut(1)
			} else if f>>bits[1]&1 == 0 {
				r.cut(2)
			}
		}
	}
	return told{points: p}, true
}

func modelComposite(r *rest, whole int) (told, bool) {
	var x told
	for {
		f := r.two()
		x.places = append(x.places, whole-len(r.s))
		x.parts = append(x.parts, r.two())
		r.cut(2 + f%2*2)
		kinds := 0
		for bit, size := range map[int]int{8: 2, 64: 4, 128: 8} {
			if f&bit == bit {
				r.cut(size)
				kinds++
			}
		}
		if kinds > 1 || len(x.parts) > 64 || r.short {
			return told{}, false
		}
		if f&32 == 0 {
			if f&256 == 256 {
				r.cut(r.two())
			}
			return x, true
		}
	}
}

// modelSplit tells whether there is an answer, too.
func modelSplit(loca, glyf string, n int, long bool) ([]string, bool) {
	if n < 1 || n > 4096 {
		return nil, false
	}
	var places []int
	for range n + 1 {
		switch {
		case long && len(loca) >= 4:
			places, loca = append(places, int(binary.BigEndian.Uint32([]byte(loca)))), loca[4:]
		case !long && len(loca) >= 2:
			places, loca = append(places, 2*int(binary.BigEndian.Uint16([]byte(loca)))), loca[2:]
		default:
			return nil, false
		}
	}
	var l []string
	for i := range n {
		if places[i] > places[i+1] || places[i+1] > len(glyf) {
			return nil, false
		}
		l = append(l, glyf[places[i]:places[i+1]])
	}
	return l, true
}

func filledUp(g string) string {
	for len(g)%4 != 0 {
		g += "\x00"
	}
	return g
}

func modelJoin(l []string) (string, string, api.Errno) {
	if len(l) == 0 || len(l) > 4096 {
		return "", "", api.ErrGlyph
	}
	size := 0
	for _, g := range l {
		size += (len(g) + 3) / 4 * 4
	}
	if size > 1<<20 {
		return "", "", api.ErrLong
	}
	var loca, glyf strings.Builder
	for _, g := range l {
		loca.WriteString(four(glyf.Len()))
		glyf.WriteString(filledUp(g))
	}
	return loca.String() + four(glyf.Len()), glyf.String(), api.OK
}

// modelRenumber makes the glyph anew, from its pieces.
func modelRenumber(g string, old []int) (string, bool) {
	x, ok := model(g)
	if !ok {
		return "", false
	}
	made, from := "", 0
	for i, at := range x.places {
		place := -1
		for j := len(old) - 1; j >= 0; j-- {
			if old[j] == x.parts[i] {
				place = j
			}
		}
		if place < 0 || place > 65535 {
			return "", false
		}
		made += g[from:at] + two(place)
		from = at + 2
	}
	return made + g[from:], true
}

// simple is a simple glyph in its fields, each of which may be set otherwise; c
// and the number of the instructions' bytes are said apart from them.
type simple struct {
	c      int
	box    string
	ends   []int
	count  int
	instr  string
	flags  string
	xs, ys string
}

func (x simple) text() string {
	var ends strings.Builder
	for _, e := range x.ends {
		ends.WriteString(two(e))
	}
	return two(x.c) + x.box + ends.String() + two(x.count) + x.instr + x.flags + x.xs + x.ys
}

// contours is a simple glyph whose contours have so many points each, all of
// them with both coordinates of one byte.
func contours(points ...int) simple {
	x := simple{c: len(points), box: "box of 8"}
	p := 0
	for _, n := range points {
		p += n
		x.ends = append(x.ends, p-1)
	}
	x.flags, x.xs, x.ys = strings.Repeat("\x37", p), bytes(p), bytes(p)
	return x
}

// instructed is a simple glyph with instructions.
func (x simple) instructed(s string) simple {
	x.count, x.instr = len(s), s
	return x
}

// flagged is a glyph of one contour with these flags, as they stand in it, and
// so many bytes of coordinates.
func flagged(points int, flags string, xs, ys int) simple {
	x := contours(points)
	x.flags, x.xs, x.ys = flags, bytes(xs), bytes(ys)
	return x
}

// runs are the flags of so many points that are all of one kind.
func runs(f, points int) string {
	var s strings.Builder
	for points > 0 {
		n := min(points, 256)
		s.WriteString(one(f|8) + one(n-1))
		points -= n
	}
	return s.String()
}

// component is one component in its fields.
type component struct {
	flags  int
	number int
	more   string // what stands behind the number
}

// part is a component whose bytes are as many as its flags say, as far as they
// do.
func part(flags, number int) component {
	size := 2
	if flags&1 != 0 {
		size = 4
	}
	if flags&8 != 0 {
		size += 2
	}
	if flags&64 != 0 {
		size += 4
	}
	if flags&128 != 0 {
		size += 8
	}
	return component{flags, number, bytes(size)}
}

// made is a composite glyph of components, with what stands behind them.
func made(behind string, l ...component) string {
	var s strings.Builder
	s.WriteString("\xff\xffbox of 8")
	for _, x := range l {
		s.WriteString(two(x.flags) + two(x.number) + x.more)
	}
	return s.String() + behind
}

// chain is a composite glyph of components with these numbers.
func chain(numbers ...int) string {
	var l []component
	for i, n := range numbers {
		f := 32
		if i == len(numbers)-1 {
			f = 0
		}
		l = append(l, part(f, n))
	}
	return made("", l...)
}

// upTo are the numbers from one to another.
func upTo(from, to int) []int {
	var l []int
	for x := from; x <= to; x++ {
		l = append(l, x)
	}
	return l
}

// some are right glyphs of all kinds, and the empty one.
func some() []string {
	return []string{
		"",
		contours(1).text(),
		contours(3, 1, 2).text(),
		contours(2).instructed("some").text(),
		contours(7).text() + "\x00",
		contours(1).text() + "\x00\x00\x00\x00\x00\x00",
		flagged(3, "\x08\x02", 6, 6).text(),
		flagged(1, "\x30", 0, 0).text(),
		flagged(300, "\x3a\xff"+strings.Repeat("\x12", 44), 300, 88).text(),
		chain(5),
		chain(1, 2, 3, 2, 65535, 0),
		chain(upTo(100, 163)...),
		made("\x00\x03abc", part(32|1|8, 5), part(256|128, 7)),
		made("\x00\x00\x00", part(32|256|64, 9), part(256|1, 9)),
		made("\x00\x00\x00", part(512|2|4|16, 4)),
	}
}

func turnedTo(s string, at int, b int) string { return s[:at] + one(b) + s[at+1:] }

// tell is how something is shown: its beginning.
func tell(x any) string {
	s := fmt.Sprintf("%x", x)
	if l, ok := x.([]int); ok {
		s = fmt.Sprint(l)
	}
	return s[:min(len(s), 300)]
}

// right fails, unless a glyph is right (or empty), with so many points and these
// parts.
func right(t *testing.T, what, g string, points int, parts ...int) {
	t.Helper()
	p, err := Points(g)
	if p != points || err != api.OK {
		t.Errorf("%s: %s has %d points, %v; asked: %d", what, tell(g), p, err, points)
	}
	l, err := Parts(g)
	if !slices.Equal(l, parts) || err != api.OK {
		t.Errorf("%s: %s has the parts %s, %v; asked: %s", what, tell(g), tell(l), err, tell(parts))
	}
	if err := Check(g); err != api.OK {
		t.Errorf("%s: %s: %v", what, tell(g), err)
	}
	if x, ok := model(g); x.points != points || !slices.Equal(x.parts, parts) || !ok {
		t.Errorf("%s: %s: this test's own reader tells %v, %v", what, tell(g), x, ok)
	}
}

// wrong fails, unless a glyph is refused, with nothing beside the error.
func wrong(t *testing.T, what, g string) {
	t.Helper()
	if p, err := Points(g); p != 0 || err != api.ErrGlyph {
		t.Errorf("%s: %s has %d points, %v", what, tell(g), p, err)
	}
	if l, err := Parts(g); len(l) != 0 || err != api.ErrGlyph {
		t.Errorf("%s: %s has the parts %s, %v", what, tell(g), tell(l), err)
	}
	if s, err := Renumber(g, everyNumber); s != "" || err != api.ErrGlyph {
		t.Errorf("%s: %s, renumbered: %s, %v", what, tell(g), tell(s), err)
	}
	if err := Check(g); err != api.ErrGlyph {
		t.Errorf("%s: %s: %v", what, tell(g), err)
	}
	if x, ok := model(g); ok {
		t.Errorf("%s: %s: this test's own reader tells %v", what, tell(g), x)
	}
}

// held fails, unless a glyph is taken just as by the test's own reader, and as
// is said.
func held(t *testing.T, what, g string, ok bool) {
	t.Helper()
	if x, _ := model(g); ok {
		right(t, what, g, x.points, x.parts...)
	} else {
		wrong(t, what, g)
	}
}

// alike fails, unless a glyph is taken as by the test's own reader; it tells
// whether it is.
func alike(t *testing.T, what, g string) bool {
	t.Helper()
	_, ok := model(g)
	held(t, what, g, ok)
	return ok
}

// everyNumber is what components can have, each at its place.
var everyNumber = upTo(0, 65535)

// cut fails, unless a text is split as is asked; nil: it is refused.
func cut(t *testing.T, what, loca, glyf string, n int, long bool, want []string) {
	t.Helper()
	l, err := Split(loca, glyf, n, long)
	if want == nil && (len(l) != 0 || err != api.ErrGlyph) || want != nil && (!slices.Equal(l, want) || err != api.OK) {
		t.Errorf("%s: Split(%s, %s, %d, %v) is %s, %v; asked: %s", what, tell(loca), tell(glyf), n, long, tell(l), err, tell(want))
	}
	if l, ok := modelSplit(loca, glyf, n, long); ok != (want != nil) || !slices.Equal(l, want) {
		t.Errorf("%s: this test's own splitter tells %s, %v", what, tell(l), ok)
	}
}

// joined fails, unless glyphs are joined, or refused, as by the test's own
// joiner, and come back filled up.
func joined(t *testing.T, what string, l []string) (string, string) {
	t.Helper()
	wantLoca, wantGlyf, wantErr := modelJoin(l)
	loca, glyf, err := Join(l)
	if loca != wantLoca || glyf != wantGlyf || err != wantErr {
		t.Fatalf("%s: Join is %s, %s, %v; asked: %s, %s, %v", what, tell(loca), tell(glyf), err, tell(wantLoca), tell(wantGlyf), wantErr)
	}
	if err != api.OK {
		return "", ""
	}
	var filled []string
	for _, g := range l {
		filled = append(filled, filledUp(g))
	}
	cut(t, what+", split again", loca, glyf, len(l), true, filled)
	return loca, glyf
}

// renumbered fails, unless a glyph is renumbered as is asked; not ok: it is
// refused.
func renumbered(t *testing.T, what, g string, old []int, want string, ok bool) {
	t.Helper()
	s, err := Renumber(g, old)
	if ok && (s != want || err != api.OK) || !ok && (s != "" || err != api.ErrGlyph) {
		t.Errorf("%s: Renumber(%s, %s) is %s, %v; asked: %s, %v", what, tell(g), tell(old), tell(s), err, tell(want), ok)
	}
	if s, o := modelRenumber(g, old); o != ok || o && s != want {
		t.Errorf("%s: this test's own renumberer tells %s, %v", what, tell(s), o)
	}
}

// numbers are as if by chance, and hang on the seed alone.
func numbers(seed int) func(below int) int {
	x := uint64(seed)*2654435761 + 1
	return func(below int) int {
		x = x*6364136223846793005 + 1442695040888963407
		return int(x>>33) % below
	}
}
