package metrics

import (
	"encoding/binary"
	"fmt"
	"math"
	"math/big"
	"slices"
	"strings"
	"testing"

	"colophon/api"
)

// The chapter's words once more, point by point.

const (
	least = math.MinInt
	most  = math.MaxInt
)

func two(x int) string { return string(binary.BigEndian.AppendUint16(nil, uint16(x))) }

func zeros(n int) string { return strings.Repeat("\x00", n) }

// font is four tables in their fields, each of which may be set otherwise; n and
// h are said apart from hmtx.
type font struct {
	maxpFirst       string
	n               int
	headFirst       string
	magic           string
	upem            int
	box             [4]int
	long, format    int
	hheaFirst       string
	asc, desc, gap  int
	widths          int
	h               int
	advance, behind []int
	bearing         []int // of the first h
}

// simple is a font of so many glyphs, so many of which have advances of their
// own; all its numbers are different ones.
func simple(n, h int) font {
	f := font{maxpFirst: "\x00\x01\x00\x00", n: n, headFirst: "\x00\x01\x00\x00", magic: "\x5f\x0f\x3c\xf5", upem: 1000, box: [4]int{-1, -2, 3, 4}, hheaFirst: "\x00\x01\x00\x00", asc: 800, desc: -201, gap: 92, h: h}
	for i := range h {
		f.advance, f.bearing = append(f.advance, 500+i), append(f.bearing, 10-i)
	}
	for i := range max(n-h, 0) {
		f.behind = append(f.behind, -5000-i)
	}
	return f
}

func (f font) hmtx() string {
	var s strings.Builder
	for i := range f.advance {
		s.WriteString(two(f.advance[i]) + two(f.bearing[i]))
	}
	for _, x := range f.behind {
		s.WriteString(two(x))
	}
	return s.String()
}

// tables are not in the order in which they are built, nor in that in which
// they are read.
func (f font) tables() []api.Table {
	box := two(f.box[0]) + two(f.box[1]) + two(f.box[2]) + two(f.box[3])
	return []api.Table{
		{Tag: "hmtx", Data: f.hmtx()},
		{Tag: "hhea", Data: f.hheaFirst + two(f.asc) + two(f.desc) + two(f.gap) + "hhea's own: 22 bytes.." + two(f.widths) + two(f.h)},
		{Tag: "head", Data: f.headFirst + "revisums" + f.magic + "fl" + two(f.upem) + "when it was made" + box + "mssihi" + two(f.long) + two(f.format)},
		{Tag: "maxp", Data: f.maxpFirst + two(f.n)},
	}
}

// told is the metrics of a font that is right.
func (f font) told() api.Metrics {
	m := api.Metrics{Upem: f.upem, Ascent: f.asc, Descent: f.desc, Gap: f.gap, Box: f.box, Long: f.long == 1}
	for i := range f.n {
		m.Advance = append(m.Advance, f.advance[min(i, f.h-1)])
	}
	m.Bearing = slices.Concat(f.bearing, f.behind)
	return m
}

func same(a, b api.Metrics) bool {
	return a.Upem == b.Upem && a.Ascent == b.Ascent && a.Descent == b.Descent && a.Gap == b.Gap && a.Box == b.Box && a.Long == b.Long &&
		slices.Equal(a.Advance, b.Advance) && slices.Equal(a.Bearing, b.Bearing)
}

func word(s string, at int) int { return int(s[at])*256 + int(s[at+1]) }

func short(s string, at int) int {
	if x := word(s, at); x >= 32768 {
		return x - 65536
	}
	return word(s, at)
}

// modelRead tells, of one point of the Words after the other, whether it holds.
func modelRead(l []api.Table) (api.Metrics, bool) {
	data := map[string]string{}
	for _, t := range slices.Backward(l) {
		data[t.Tag] = t.Data // the first holds
	}
	maxp, head, hhea, hmtx := data["maxp"], data["head"], data["hhea"], data["hmtx"]
	if len(maxp) < 6 || len(head) < 54 || len(hhea) < 36 {
		return api.Metrics{}, false
	}
	n, h := word(maxp, 4), word(hhea, 34)
	for _, right := range []bool{
		maxp[:4] == "\x00\x00\x50\x00" || maxp[:4] == "\x00\x01\x00\x00", n >= 1, n <= 4096,
		head[:4] == "\x00\x01\x00\x00", head[12:16] == "\x5f\x0f\x3c\xf5", word(head, 18) >= 16, word(head, 18) <= 16384, word(head, 50) == 0 || word(head, 50) == 1, head[52:54] == "\x00\x00",
		hhea[:4] == "\x00\x01\x00\x00", hhea[32:34] == "\x00\x00", h >= 1, h <= n,
		len(hmtx) >= 4*h+2*(n-h),
	} {
		if !right {
			return api.Metrics{}, false
		}
	}
	m := api.Metrics{Upem: word(head, 18), Ascent: short(hhea, 4), Descent: short(hhea, 6), Gap: short(hhea, 8), Box: [4]int{short(head, 36), short(head, 38), short(head, 40), short(head, 42)}, Long: word(head, 50) == 1}
	for i := range n {
		if i < h {
			m.Advance, m.Bearing = append(m.Advance, word(hmtx, 4*i)), append(m.Bearing, short(hmtx, 4*i+2))
		} else {
			m.Advance, m.Bearing = append(m.Advance, word(hmtx, 4*(h-1))), append(m.Bearing, short(hmtx, 4*h+2*(i-h)))
		}
	}
	return m, true
}

// modelBuild is the tables of good metrics, from the first byte to the last.
func modelBuild(m api.Metrics) []api.Table {
	long, greatest := 0, 0
	var hmtx strings.Builder
	if m.Long {
		long = 1
	}
	for i, x := range m.Advance {
		greatest = max(greatest, x)
		hmtx.WriteString(two(x) + two(m.Bearing[i]))
	}
	return []api.Table{
		{Tag: "head", Data: "\x00\x01\x00\x00" + "\x00\x01\x00\x00" + zeros(4) + "\x5f\x0f\x3c\xf5" + zeros(2) + two(m.Upem) + zeros(16) + two(m.Box[0]) + two(m.Box[1]) + two(m.Box[2]) + two(m.Box[3]) + zeros(4) + "\x00\x02" + two(long) + zeros(2)},
		{Tag: "hhea", Data: "\x00\x01\x00\x00" + two(m.Ascent) + two(m.Descent) + two(m.Gap) + two(greatest) + zeros(22) + two(len(m.Advance))},
		{Tag: "hmtx", Data: hmtx.String()},
		{Tag: "maxp", Data: "\x00\x01\x00\x00" + two(len(m.Advance)) + zeros(8) + "\x00\x02" + zeros(16)},
	}
}

// modelUnits is of whole numbers without bounds: the floor of twice the product
// and the divisor, through twice the divisor.
func modelUnits(upem, u, size int) (int, bool) {
	if upem < 16 || size < 1 || size > 1<<40 {
		return 0, false
	}
	c := big.NewInt(int64(upem))
	x := new(big.Int).Mul(big.NewInt(int64(u)), big.NewInt(int64(size)))
	x.Lsh(x, 1).Add(x, c).Div(x, c.Lsh(c, 1))
	if x.CmpAbs(big.NewInt(1<<40)) > 0 {
		return 0, false
	}
	return int(x.Int64()), true
}

// tell is how something is shown: its beginning.
func tell(x any) string {
	s := fmt.Sprintf("%+v", x)
	if l, ok := x.([]api.Table); ok {
		s = fmt.Sprintf("%+q", l)
	}
	return s[:min(len(s), 500)]
}

// right fails, unless tables are read as these metrics.
func right(t *testing.T, what string, l []api.Table, want api.Metrics) {
	t.Helper()
	if got, err := Read(l); err != api.OK || !same(got, want) {
		t.Errorf("%s: %s is read as %s, %v; asked: %s", what, tell(l), tell(got), err, tell(want))
	}
	if got, ok := modelRead(l); !ok || !same(got, want) {
		t.Errorf("%s: %s: this test's own reader takes it as %s, %v", what, tell(l), tell(got), ok)
	}
}

// wrong fails, unless tables are refused.
func wrong(t *testing.T, what string, l []api.Table) {
	t.Helper()
	if got, err := Read(l); err != api.ErrHead || !same(got, api.Metrics{}) {
		t.Errorf("%s: %s is read as %s, %v", what, tell(l), tell(got), err)
	}
	if got, ok := modelRead(l); ok {
		t.Errorf("%s: %s: this test's own reader takes it as %s", what, tell(l), tell(got))
	}
}

// held is right or wrong.
func held(t *testing.T, what string, f font, ok bool) {
	t.Helper()
	if ok {
		right(t, what, f.tables(), f.told())
	} else {
		wrong(t, what, f.tables())
	}
}

// alike fails, unless tables are taken or refused as by the test's own reader.
func alike(t *testing.T, what string, l []api.Table) bool {
	t.Helper()
	want, ok := modelRead(l)
	if ok {
		right(t, what, l, want)
	} else {
		wrong(t, what, l)
	}
	return ok
}

// with is the list with another text in the place of a table's.
func with(l []api.Table, tag, data string) []api.Table {
	out := slices.Clone(l)
	out[find(l, tag)].Data = data
	return out
}

func find(l []api.Table, tag string) int {
	return slices.IndexFunc(l, func(t api.Table) bool { return t.Tag == tag })
}

func data(l []api.Table, tag string) string { return l[find(l, tag)].Data }

// turned is the list with other bytes in a table, from a place on.
func turned(l []api.Table, tag string, at int, s string) []api.Table {
	d := data(l, tag)
	return with(l, tag, d[:at]+s+d[at+len(s):])
}

// numbers are as if by chance, and hang on the seed alone.
func numbers(seed int) func(below int) int {
	x := uint64(seed)*2654435761 + 1
	return func(below int) int {
		x = x*6364136223846793005 + 1442695040888963407
		return int(x>>33) % below
	}
}

var tags = []string{"maxp", "head", "hhea", "hmtx"}
