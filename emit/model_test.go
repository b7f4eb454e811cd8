package emit_test

import (
	"fmt"
	"math"
	"math/big"
	"slices"
	"strings"
	"testing"

	"colophon/api"
	"colophon/emit"
)

// The chapter's words once more, in another way.

const (
	least = math.MinInt
	most  = math.MaxInt
	top   = 1 << 40
	one   = 1 << 16
)

func box(x0, y0, x1, y1 int) api.Rect { return api.Rect{X0: x0, Y0: y0, X1: x1, Y1: y1} }

// text is a text whose other numbers are as plain as they may be.
func text(glyphs ...int) api.Mark {
	return api.Mark{Kind: api.MarkText, Size: one, Glyphs: glyphs}
}

func rule(x0, y0, x1, y1 int) api.Mark {
	return api.Mark{Kind: api.MarkRule, Box: box(x0, y0, x1, y1)}
}

func clip(x0, y0, x1, y1 int) api.Mark {
	return api.Mark{Kind: api.MarkClip, Box: box(x0, y0, x1, y1)}
}

func end() api.Mark { return api.Mark{Kind: api.MarkEnd} }

func list(l ...api.Mark) []api.Mark { return l }

// changed is a mark that is another one in some fields.
func changed(m api.Mark, change func(m *api.Mark)) api.Mark {
	m.Glyphs = slices.Clone(m.Glyphs)
	change(&m)
	return m
}

// nested is so many clips in one another.
func nested(deep int) []api.Mark {
	return slices.Concat(slices.Repeat(list(clip(0, 0, 1, 1)), deep), slices.Repeat(list(end()), deep))
}

// within tells whether a true number is from one to another.
func within(x, from, to *big.Int) bool { return x.Cmp(from) >= 0 && x.Cmp(to) <= 0 }

func whole(x int) *big.Int { return big.NewInt(int64(x)) }

// modelIn is chapter 1's word, of true numbers.
func modelIn(l ...*big.Int) bool {
	for _, x := range l {
		if !within(x, whole(-top), whole(top)) {
			return false
		}
	}
	return true
}

// modelBox takes the differences as true ones, so that none wraps.
func modelBox(r api.Rect) bool {
	wide, high := new(big.Int).Sub(whole(r.X1), whole(r.X0)), new(big.Int).Sub(whole(r.Y1), whole(r.Y0))
	return modelIn(whole(r.X0), whole(r.Y0), whole(r.X1), whole(r.Y1), wide, high) && wide.Sign() >= 0 && high.Sign() >= 0
}

func modelMark(m api.Mark) bool {
	glyphs := len(m.Glyphs) > 0
	for _, g := range m.Glyphs {
		glyphs = glyphs && g == int(uint16(g))
	}
	placed := [4]int{m.Font, m.Size, m.X, m.Y} != [4]int{} || len(m.Glyphs) != 0
	switch m.Kind {
	case 1:
		return glyphs && m.Font >= 0 && m.Font < 100 && m.Size > 0 && modelIn(whole(m.Size), whole(m.X), whole(m.Y)) && m.Box == box(0, 0, 0, 0)
	case 2, 3:
		return modelBox(m.Box) && !placed
	case 4:
		return m.Box == box(0, 0, 0, 0) && !placed
	}
	return false
}

// modelRest takes what stands in so many clips, up to the end of the innermost
// one or of the list; it is false, if something is too deep or too much.
func modelRest(l []api.Mark, deep int) ([]api.Mark, bool) {
	for len(l) > 0 && l[0].Kind != 4 {
		inner := l[0].Kind == 3
		l = l[1:]
		if inner {
			rest, ok := modelRest(l, deep+1)
			if !ok || deep == 32 || len(rest) == 0 {
				return nil, false
			}
			l = rest[1:]
		}
	}
	return l, true
}

func modelStands(l []api.Mark) bool {
	if len(l) >= 8193 {
		return false
	}
	for _, m := range l {
		if !modelMark(m) {
			return false
		}
	}
	rest, ok := modelRest(l, 0)
	return ok && len(rest) == 0
}

// modelNumber divides truly, and takes away what need not be said.
func modelNumber(x int) string {
	s := big.NewRat(int64(x), one).FloatString(20)
	return strings.TrimSuffix(strings.TrimRight(s, "0"), ".")
}

func modelLines(m api.Mark) string {
	n := modelNumber
	re := fmt.Sprintf("%s %s %s %s re\n", n(m.Box.X0), n(m.Box.Y0), n(m.Box.X1-m.Box.X0), n(m.Box.Y1-m.Box.Y0))
	switch m.Kind {
	case 1:
		var shown strings.Builder
		for _, g := range m.Glyphs {
			fmt.Fprintf(&shown, "%04x", g)
		}
		return fmt.Sprintf("BT\n/F%d %s Tf\n1 0 0 1 %s %s Tm\n<%s> Tj\nET\n", m.Font, n(m.Size), n(m.X), n(m.Y), shown.String())
	case 2:
		return re + "f\n"
	case 3:
		return "q\n" + re + "W n\n"
	}
	return "Q\n"
}

// modelEmit tells the text of a list, or the error.
func modelEmit(l []api.Mark) (string, api.Errno) {
	if !modelStands(l) {
		return "", api.ErrMark
	}
	var all strings.Builder
	for _, m := range l {
		all.WriteString(modelLines(m))
	}
	if all.Len() > 1048576 {
		return "", api.ErrLong
	}
	return all.String(), api.OK
}

// tell is how something is shown: its beginning.
func tell(x any) string {
	s := fmt.Sprintf("%+v", x)
	if text, ok := x.(string); ok {
		s = fmt.Sprintf("%d bytes %q", len(text), text[:min(len(text), 200)])
	}
	return s[:min(len(s), 400)]
}

// as fails, unless a list is checked and written as this test's own way does.
func as(t *testing.T, what string, l []api.Mark) api.Errno {
	t.Helper()
	want, err := modelEmit(l)
	if s, got := emit.Emit(l); s != want || got != err {
		t.Errorf("%s: Emit(%s) is %s, %v; asked: %s, %v", what, tell(l), tell(s), got, tell(want), err)
	}
	stands := api.OK
	if err == api.ErrMark {
		stands = api.ErrMark
	}
	if got := emit.Check(l); got != stands {
		t.Errorf("%s: Check(%s) is %v; asked: %v", what, tell(l), got, stands)
	}
	return err
}

// stands fails, unless a list may stand, and is written.
func stands(t *testing.T, what string, l []api.Mark) {
	t.Helper()
	if err := as(t, what, l); err != api.OK {
		t.Errorf("%s: this test's own way does not let it stand: %v", what, err)
	}
}

// written fails, unless a list's text is this one.
func written(t *testing.T, what, want string, l ...api.Mark) {
	t.Helper()
	if s, err := emit.Emit(l); s != want || err != api.OK {
		t.Errorf("%s: Emit(%s) is %s, %v; asked: %s", what, tell(l), tell(s), err, tell(want))
	}
	stands(t, what, l)
}

// refused fails, unless a list may not stand.
func refused(t *testing.T, what string, l []api.Mark) {
	t.Helper()
	if err := as(t, what, l); err != api.ErrMark {
		t.Errorf("%s: this test's own way lets it stand: %v", what, err)
	}
}

// long fails, unless a list may stand, but has too long a text.
func long(t *testing.T, what string, l []api.Mark) {
	t.Helper()
	if err := as(t, what, l); err != api.ErrLong {
		t.Errorf("%s: this test's own way does not find it long: %v", what, err)
	}
}

// placed are lists in which a mark stands ahead of others, behind them, between
// them and in clips. A clip is ended, so that nothing but the mark itself
// could be wrong.
func placed(m api.Mark) [][]api.Mark {
	l := list(m)
	switch m.Kind {
	case api.MarkClip:
		l = list(m, end())
	case api.MarkEnd:
		l = list(clip(0, 0, 0, 0), m)
	}
	some := list(text(7), clip(-1, -2, 3, 4), rule(5, 6, 7, 8), end())
	deep := nested(31)
	return [][]api.Mark{
		l, slices.Concat(some, l), slices.Concat(l, some), slices.Concat(some, l, some), slices.Concat(l, l),
		slices.Concat(deep[:31], l, deep[31:]), slices.Concat(list(clip(0, 0, 9, 9)), some, l, list(end())),
	}
}

// good fails, unless a mark may be, wherever it stands.
func good(t *testing.T, what string, m api.Mark) {
	t.Helper()
	for i, l := range placed(m) {
		stands(t, fmt.Sprint(what, ", list ", i), l)
	}
}

// bad fails, unless a mark may not be, wherever it stands.
func bad(t *testing.T, what string, m api.Mark) {
	t.Helper()
	for i, l := range placed(m) {
		refused(t, fmt.Sprint(what, ", list ", i), l)
	}
}

// numbers are as if by chance, and hang on the seed alone.
func numbers(seed int) func(below int) int {
	x := uint64(seed)*2654435761 + 1
	return func(below int) int {
		x = x*6364136223846793005 + 1442695040888963407
		return int(x>>33) % below
	}
}
