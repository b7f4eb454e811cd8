package emit_test

import (
	"fmt"
	"slices"
	"testing"

	"colophon/api"
	"colophon/emit"
)

// P15.1: Same.

// like fails, unless two lists are alike or not, either way round.
func like(t *testing.T, what string, a, b []api.Mark, want bool) {
	t.Helper()
	if emit.Same(a, b) != want || emit.Same(b, a) != want {
		t.Errorf("%s: Same of %s and %s is %v, the other way %v; asked: %v", what, tell(a), tell(b), emit.Same(a, b), emit.Same(b, a), want)
	}
}

// twin is a list alike that shares nothing.
func twin(l []api.Mark) []api.Mark {
	var out []api.Mark
	for _, m := range l {
		out = append(out, changed(m, func(*api.Mark) {}))
	}
	return out
}

// variants are marks of which no two are alike. Most may not stand.
func variants() []api.Mark {
	full := api.Mark{Kind: 11, Font: 12, Size: 13, X: 14, Y: 15, Glyphs: []int{16, 17}, Box: box(18, 19, 20, 21)}
	l := list(api.Mark{}, full, text(1), rule(1, 2, 3, 4), clip(1, 2, 3, 4), end())
	for _, base := range list(api.Mark{}, full) {
		for _, x := range []int{-1, 99, one, top + 1, 1 << 32, least, most} {
			for _, change := range others() {
				l = append(l, changed(base, func(m *api.Mark) { change(m, x) }))
			}
			l = append(l, changed(base, func(m *api.Mark) { m.Kind = x }))
		}
		for _, glyphs := range [][]int{{0}, {1}, {-1}, {least}, {16}, {17}, {17, 16}, {16, 18}, {15, 17}, {16, 17, 0}, {16, 17, 18}, {0, 16, 17}, {0, 0}, make([]int, 100), make([]int, 101)} {
			l = append(l, changed(base, func(m *api.Mark) { m.Glyphs = glyphs }))
		}
	}
	return append(l,
		// Two fields changed for one another.
		changed(full, func(m *api.Mark) { m.Kind, m.Font = m.Font, m.Kind }),
		changed(full, func(m *api.Mark) { m.Font, m.Size = m.Size, m.Font }),
		changed(full, func(m *api.Mark) { m.X, m.Y = m.Y, m.X }),
		changed(full, func(m *api.Mark) { m.Size, m.X = m.X, m.Size }),
		changed(full, func(m *api.Mark) { m.Box.X0, m.Box.X1 = m.Box.X1, m.Box.X0 }),
		changed(full, func(m *api.Mark) { m.Box.Y0, m.Box.Y1 = m.Box.Y1, m.Box.Y0 }),
		changed(full, func(m *api.Mark) { m.Box.X0, m.Box.Y0 = m.Box.Y0, m.Box.X0 }),
		changed(full, func(m *api.Mark) { m.Box.X1, m.Box.Y1 = m.Box.Y1, m.Box.X1 }),
		changed(full, func(m *api.Mark) { m.Glyphs = nil }),
	)
}

func TestMarksThatDifferInOneField(t *testing.T) {
	all := variants()
	for i, a := range all {
		for j, b := range all {
			what := fmt.Sprint("marks ", i, " and ", j)
			like(t, what, list(a), twin(list(b)), i == j)
			rest := list(text(1, 2), end())
			like(t, what+" ahead of others", append(list(a), rest...), append(twin(list(b)), rest...), i == j)
			like(t, what+" behind others", append(twin(rest), a), append(twin(rest), twin(list(b))...), i == j)
			like(t, what+" between others", list(text(1), a, end()), list(text(1), b, end()), i == j)
		}
	}
}

func TestListsThatDifferInTheirNumber(t *testing.T) {
	all := variants()
	for n := range all {
		for k := range all {
			like(t, fmt.Sprint(n, " and ", k, " marks"), all[:n], twin(all[:k]), n == k)
		}
	}
	for _, n := range []int{1, 2, 8192, 8193, 20000} {
		l := make([]api.Mark, n)
		like(t, fmt.Sprint(n, " marks"), l, make([]api.Mark, n), true)
		like(t, fmt.Sprint(n, " marks and one less"), l, l[:n-1], false)
		like(t, fmt.Sprint(n, " marks and none"), l, nil, false)
		other := make([]api.Mark, n)
		other[n-1].Box.Y1 = 1
		like(t, fmt.Sprint(n, " marks, the last one another"), l, other, false)
	}
}

func TestTheOrderOfMarks(t *testing.T) {
	a, b := text(1), rule(0, 0, 1, 1)
	like(t, "one order", list(a, b), list(b, a), false)
	like(t, "the other way", slices.Repeat(list(a, b), 100), slices.Repeat(list(b, a), 100), false)
	like(t, "one twice", list(a, a, b), list(a, b, b), false)
}

func TestListsOfNothing(t *testing.T) {
	like(t, "nil and nil", nil, nil, true)
	like(t, "nil and empty", nil, []api.Mark{}, true)
	like(t, "empty and spare room", []api.Mark{}, list(text(1))[:0], true)
	like(t, "nil and a mark of nothing", nil, make([]api.Mark, 1), false)
	for _, m := range variants() {
		none, empty, spare := m, m, m
		none.Glyphs, empty.Glyphs, spare.Glyphs = nil, []int{}, []int{1, 2}[:0]
		like(t, "no glyphs and an empty list", list(none), list(empty), true)
		like(t, "no glyphs and spare room", list(none), list(spare), true)
		like(t, "an empty list and one glyph", list(empty), list(changed(m, func(m *api.Mark) { m.Glyphs = []int{0} })), false)
	}
}

func TestALongListOfGlyphs(t *testing.T) {
	a, b := make([]int, 1<<20), make([]int, 1<<20)
	like(t, "alike", list(text(a...)), list(text(b...)), true)
	like(t, "one less", list(text(a...)), list(text(b[1:]...)), false)
	b[len(b)-1] = 1
	like(t, "another last one", list(text(a...)), list(text(b...)), false)
}

func TestAListIsAlikeToItself(t *testing.T) {
	for _, l := range [][]api.Mark{nil, variants(), nested(32), nested(33), slices.Repeat(list(text(1)), 9000)} {
		like(t, "itself", l, l, true)
		like(t, "its twin", l, twin(l), true)
	}
}
