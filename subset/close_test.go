package subset_test

import (
	"fmt"
	"slices"
	"testing"

	"colophon/api"
)

// P13.1

// faceFault is how a face that may be is made one that may not.
type faceFault struct {
	what string
	spot func(f *api.Face)
	err  api.Errno
}

// faceFaults are of all kinds that face.Check tells, in the order in which it
// looks for them.
func faceFaults() []faceFault {
	return []faceFault{
		{"Upem", func(f *api.Face) { f.M.Upem = 15 }, api.ErrHead},
		{"a Bearing less", func(f *api.Face) { f.M.Bearing = f.M.Bearing[1:] }, api.ErrHead},
		{"an Advance too great", func(f *api.Face) { f.M.Advance[2] = 65536 }, api.ErrHead},
		{"no metrics", func(f *api.Face) { f.M = api.Metrics{} }, api.ErrHead},
		{"a glyph more", func(f *api.Face) { f.Glyphs = append(f.Glyphs, "") }, api.ErrGlyph},
		{"a glyph less", func(f *api.Face) { f.Glyphs = f.Glyphs[:len(f.Glyphs)-1] }, api.ErrGlyph},
		{"no glyphs", func(f *api.Face) { f.Glyphs = nil }, api.ErrGlyph},
		{"a wrong glyph", func(f *api.Face) { f.Glyphs[1] = "a" }, api.ErrGlyph},
		{"the last glyph is wrong", func(f *api.Face) { f.Glyphs[5] = dot + "\x01" }, api.ErrGlyph},
		{"a component that is none", func(f *api.Face) { f.Glyphs[4] = of(1, 6) }, api.ErrGlyph},
		{"a component far behind", func(f *api.Face) { f.Glyphs[4] = of(65535) }, api.ErrGlyph},
		{"a glyph of itself", func(f *api.Face) { f.Glyphs[3] = of(3) }, api.ErrLoop},
		{"two of each other", func(f *api.Face) { f.Glyphs[2], f.Glyphs[3] = of(3), of(1, 2) }, api.ErrLoop},
		{"a span that falls", func(f *api.Face) { f.Chars = chars(98, 97, 1) }, api.ErrCmap},
		{"a span of glyph 0", func(f *api.Face) { f.Chars = chars(97, 97, 0) }, api.ErrCmap},
		{"a span to the glyph behind the last", func(f *api.Face) { f.Chars = chars(97, 102, 1) }, api.ErrCmap},
		{"spans that are one", func(f *api.Face) { f.Chars = chars(97, 97, 1, 98, 98, 2) }, api.ErrCmap},
		{"a span of no code points", func(f *api.Face) { f.Chars = chars(55296, 55296, 1) }, api.ErrCmap},
	}
}

// base is a face of six glyphs, all of which may be.
func base() api.Face {
	return showing(made("", dot, of(1), of(2, 1), line, dot), 97, 101, 1)
}

// noGlyphs are lists with a number that is no glyph of base.
func noGlyphs() [][]int {
	return [][]int{{-1}, {6}, {7}, {4096}, {65536}, {1 << 32}, {1<<32 + 1}, {-1 << 32}, {least}, {least + 1}, {most}, {-6}, {-5}}
}

func TestFacesThatMayNotBe(t *testing.T) {
	for _, x := range faceFaults() {
		f := base()
		x.spot(&f)
		for _, used := range [][]int{nil, {0}, {1}, {5}, {3, 2, 1}, {0, 1, 2, 3, 4, 5}} {
			refused(t, x.what, f, used, x.err)
		}
		// The face's error comes first.
		for _, used := range noGlyphs() {
			refused(t, x.what+", and no glyph", f, used, x.err)
			refused(t, x.what+", and no glyph behind glyphs", f, append([]int{0, 1}, used...), x.err)
		}
	}
	for _, used := range [][]int{nil, {0}, {-1}, {1}} {
		refused(t, "nothing", api.Face{}, used, api.ErrHead)
	}
	refused(t, "too many glyphs", dots(4097), []int{1}, api.ErrHead)
}

// Of two faults of a face the one that face.Check tells is told.
func TestFacesWithTwoFaults(t *testing.T) {
	for i, first := range faceFaults() {
		for _, next := range faceFaults()[i+1:] {
			if first.err == next.err || first.what == "no metrics" {
				continue
			}
			f := base()
			if next.spot(&f); len(f.Glyphs) < 6 {
				continue
			}
			first.spot(&f)
			refused(t, first.what+", "+next.what, f, []int{1}, first.err)
			refused(t, first.what+", "+next.what+", no glyph", f, []int{-1}, first.err)
		}
	}
}

// A loop or a wrong glyph is told even if no glyph that is used leads to it.
func TestFaultsOfGlyphsThatAreNotNeeded(t *testing.T) {
	refused(t, "a loop", made("", dot, of(2)), []int{1}, api.ErrLoop)
	refused(t, "a wrong glyph", made("", dot, "a"), []int{1}, api.ErrGlyph)
	refused(t, "a component that is none", made("", dot, of(3)), nil, api.ErrGlyph)
	refused(t, "a way of nine", chain(9, upTo(0, 9)), []int{9}, api.ErrLoop)
	refused(t, "a way of nine", chain(9, upTo(0, 9)), []int{0}, api.ErrLoop)
}

func TestNumbersThatAreNoGlyphs(t *testing.T) {
	f := base()
	for _, used := range noGlyphs() {
		what := fmt.Sprint(used)
		refused(t, what, f, used, api.ErrArg)
		refused(t, what+" first", f, append(slices.Clone(used), 0, 1, 5), api.ErrArg)
		refused(t, what+" last", f, append([]int{0, 3, 3, 5}, used...), api.ErrArg)
		refused(t, what+" between", f, slices.Concat([]int{4}, used, []int{4}), api.ErrArg)
		refused(t, what+" twice", f, slices.Concat(used, used), api.ErrArg)
	}
	closed(t, "the last glyph", f, []int{5}, 0, 5)
	for _, n := range []int{1, 2, 3, 255, 256, 257, 4095, 4096} {
		f := dots(n)
		what := fmt.Sprint("of ", n)
		refused(t, "the glyph behind the last "+what, f, []int{n}, api.ErrArg)
		refused(t, "the glyph behind the last, and it, "+what, f, []int{n - 1, n}, api.ErrArg)
		refused(t, "the glyph ahead of the first "+what, f, []int{-1}, api.ErrArg)
		refused(t, "a great number "+what, f, []int{most}, api.ErrArg)
		closed(t, "the last glyph "+what, f, []int{n - 1}, slices.Compact([]int{0, n - 1})...)
	}
	// Of a face with room for more glyphs, these are none.
	roomy := dots(8)
	roomy.Glyphs, roomy.M.Advance, roomy.M.Bearing = roomy.Glyphs[:5], roomy.M.Advance[:5], roomy.M.Bearing[:5]
	refused(t, "a glyph in the spare room", roomy, []int{5}, api.ErrArg)
	closed(t, "what is used ends ahead of its spare room", roomy, []int{3, 9}[:1], 0, 3)
}

func TestGlyphsThatAreUsed(t *testing.T) {
	f := dots(6)
	closed(t, "none", f, nil, 0)
	closed(t, "none, a list", f, []int{}, 0)
	closed(t, "0 alone", f, []int{0}, 0)
	closed(t, "0 several times", f, []int{0, 0, 0}, 0)
	closed(t, "one", f, []int{3}, 0, 3)
	closed(t, "one, and 0", f, []int{3, 0}, 0, 3)
	closed(t, "one several times", f, []int{4, 4, 4, 4}, 0, 4)
	closed(t, "several, several times", f, []int{2, 4, 2, 4, 4, 2}, 0, 2, 4)
	closed(t, "rising", f, []int{1, 3, 5}, 0, 1, 3, 5)
	closed(t, "falling", f, []int{5, 3, 1}, 0, 1, 3, 5)
	closed(t, "falling to 0", f, []int{5, 4, 2, 0}, 0, 2, 4, 5)
	closed(t, "all", f, []int{0, 1, 2, 3, 4, 5}, 0, 1, 2, 3, 4, 5)
	closed(t, "all but 0", f, []int{1, 2, 3, 4, 5}, 0, 1, 2, 3, 4, 5)
	closed(t, "all, falling", f, []int{5, 4, 3, 2, 1, 0}, 0, 1, 2, 3, 4, 5)
	closed(t, "one glyph in all", dots(1), []int{0}, 0)
	closed(t, "one glyph in all, none used", dots(1), nil, 0)
	closed(t, "empty glyphs", made("", "", ""), []int{2}, 0, 2)
	many := dots(4096)
	all := upTo(0, 4095)
	closed(t, "4096 glyphs", many, all, all...)
	fall := slices.Clone(all)
	slices.Reverse(fall)
	closed(t, "4096 glyphs, falling", many, fall, all...)
	closed(t, "4096 glyphs, each many times", many, slices.Repeat(all, 20), all...)
	closed(t, "one, a million times", many, slices.Repeat([]int{77}, 1000000), 0, 77)
}

func TestComposites(t *testing.T) {
	f := made("", dot, of(1), of(2), of(5, 1), line, of(3, 4), of(0))
	closed(t, "none", f, nil, 0)
	closed(t, "of one", f, []int{2}, 0, 1, 2)
	closed(t, "of one that is of one", f, []int{3}, 0, 1, 2, 3)
	closed(t, "of two", f, []int{4}, 0, 1, 4, 5)
	closed(t, "of two that are of others", f, []int{6}, 0, 1, 2, 3, 4, 5, 6)
	closed(t, "of 0", f, []int{7}, 0, 7)
	closed(t, "a component that is used, too", f, []int{1, 2}, 0, 1, 2)
	closed(t, "a component that is used, too, behind", f, []int{2, 1, 2}, 0, 1, 2)
	closed(t, "a component alone", f, []int{1}, 0, 1)
	closed(t, "two that share one", f, []int{4, 2}, 0, 1, 2, 4, 5)
	closed(t, "glyph 0 is composite", made(of(2), dot, of(3), dot, dot), nil, 0, 2, 3)
	closed(t, "glyph 0 is composite, another used", made(of(2), dot, of(3), dot, dot), []int{4}, 0, 2, 3, 4)
	closed(t, "components behind", made("", of(4), dot, dot, of(5, 3), dot), []int{1}, 0, 1, 3, 4, 5)
	closed(t, "one component many times", made("", dot, dot, of(slices.Repeat([]int{2}, 64)...)), []int{3}, 0, 2, 3)
	for i, k := range kinds() {
		closed(t, fmt.Sprint("kind ", i), made("", dot, dot, dot, k.of(3, 1), dot, k.of(4, 5)), []int{6}, 0, 1, 3, 4, 5, 6)
	}
	last := made(append(slices.Repeat([]string{dot}, 4095), of(4094, 300, 255, 256))...)
	closed(t, "great numbers", last, []int{4095}, 0, 255, 256, 300, 4094, 4095)
	parts := upTo(100, 163)
	closed(t, "64 components", made(append(slices.Repeat([]string{dot}, 200), of(parts...))...), []int{200}, slices.Concat([]int{0}, parts, []int{200})...)
}

// chain is a face of k composite glyphs, each made of the next one, and a dot
// at the end; the glyph with the place i stands where the order says.
func chain(k int, order []int) api.Face {
	glyphs := slices.Repeat([]string{dot}, len(order))
	for i := range k {
		glyphs[order[i]] = of(order[i+1])
	}
	return made(glyphs...)
}

// orders are several ways to give numbers to so many glyphs.
func orders(n int) [][]int {
	up := upTo(0, n-1)
	down := slices.Clone(up)
	slices.Reverse(down)
	all := [][]int{up, down}
	for seed := range 4 {
		mixed := slices.Clone(up)
		next := numbers(seed)
		for i := range mixed {
			j := next(n)
			mixed[i], mixed[j] = mixed[j], mixed[i]
		}
		all = append(all, mixed)
	}
	return all
}

func TestWaysDown(t *testing.T) {
	for k := range api.MaxDepth + 1 {
		for _, order := range orders(k + 4) {
			f := chain(k, order)
			for from := range k + 1 {
				// All from there on down are needed; 0 and what it is made of, too.
				want := append([]int{0}, order[from:k+1]...)
				if at := slices.Index(order, 0); at <= k {
					want = append(want, order[at:k+1]...)
				}
				slices.Sort(want)
				closed(t, fmt.Sprint(k, " composite glyphs, from ", from), f, []int{order[from]}, slices.Compact(want)...)
			}
		}
	}
}

// There are many ways down to the same glyphs, far too many to go them all.
func TestSharedComponents(t *testing.T) {
	closed(t, "by two ways", made("", dot, of(1), of(1), of(2, 3)), []int{4}, 0, 1, 2, 3, 4)
	closed(t, "by ways of different lengths", made("", dot, of(1), of(2), of(3, 2, 1)), []int{4}, 0, 1, 2, 3, 4)
	closed(t, "of two that are used", made("", dot, of(1), of(1), of(1)), []int{4, 2}, 0, 1, 2, 4)
	for _, wide := range []int{1, 2, 7, 64, 400} {
		glyphs := slices.Repeat([]string{dot}, wide)
		for range api.MaxDepth {
			from := len(glyphs) - wide
			for i := range wide {
				var parts []int
				for j := range min(64, 1+i%70) {
					parts = append(parts, from+(i+j)%wide)
				}
				glyphs = append(glyphs, of(parts...))
			}
		}
		f := made(glyphs...)
		n := len(glyphs)
		for _, used := range [][]int{{n - 1}, {n - wide}, {n / 2}, {n / 3, n - 1}, upTo(0, n-1), upTo(n-wide, n-1)} {
			want, _ := modelClose(f, used)
			closed(t, fmt.Sprint("levels of ", wide), f, used, want...)
		}
	}
}

// someFace is a face, as if by chance, with composite glyphs of all kinds, none
// of them too deep.
func someFace(next func(below int) int, n int) api.Face {
	glyphs := make([]string, n)
	order := upTo(0, n-1)
	for i := range order {
		j := next(n)
		order[i], order[j] = order[j], order[i]
	}
	all := kinds()
	depth := make([]int, n)
	for i, g := range order {
		switch next(5) {
		case 0:
			glyphs[g] = dot + zeros(next(6))
		case 1:
			glyphs[g] = line
		case 2, 3:
			var parts []int
			for range min(i, 1+next(5)) {
				if j := next(i); depth[j] < api.MaxDepth {
					parts = append(parts, order[j])
					depth[i] = max(depth[i], depth[j]+1)
				}
			}
			if len(parts) > 0 {
				glyphs[g] = all[next(len(all))].of(parts...)
			}
		}
	}
	f := made(glyphs...)
	f.M.Long = next(2) == 0
	f.Chars = someChars(next, n)
	return f
}

// someChars is a list for so many glyphs, with spans close together and far
// apart.
func someChars(next func(below int) int, n int) []api.Chars {
	var l []api.Chars
	at := next(100)
	for range next(12) {
		if n == 1 {
			break
		}
		g := 1 + next(n-1)
		last := at + next(min(n-g, 1+next(12)))
		span := api.Chars{First: at, Last: last, Glyph: g}
		if at = last + 1 + max(0, next(9)-5); next(20) == 0 {
			at += 60000
		}
		if end := len(l) - 1; end >= 0 && l[end].Last+1 == span.First && l[end].Glyph+span.First-l[end].First == g {
			continue
		}
		if span.Last < 55296 || span.First > 57343 {
			l = append(l, span)
		}
	}
	return l
}

func TestManyFaces(t *testing.T) {
	parted, joined := 0, 0
	for seed := range 6000 {
		next := numbers(seed)
		n := 1 + next(40)
		f := someFace(next, n)
		var used []int
		for range next(8) {
			used = append(used, next(n))
		}
		want, err := modelClose(f, used)
		if err != api.OK {
			t.Fatal(seed, err)
		}
		closed(t, fmt.Sprint("seed ", seed), f, used, want...)
		part := kept(t, fmt.Sprint("seed ", seed), f, used)
		parted += min(1, max(0, len(part.Chars)-len(f.Chars)))
		for i := range max(0, len(part.Chars)) {
			if slices.IndexFunc(f.Chars, func(c api.Chars) bool { return part.Chars[i].First <= c.Last && c.Last < part.Chars[i].Last }) >= 0 {
				joined++
			}
		}
		used = append(used, n+next(3))
		refused(t, fmt.Sprint("seed ", seed, ", no glyph"), f, used, api.ErrArg)
	}
	if parted < 50 || joined < 50 {
		t.Errorf("of 6000 faces %d have more spans than they were made of, and %d spans are joined: too few", parted, joined)
	}
}
