package face

import (
	"fmt"
	"slices"
	"strings"
	"testing"

	"colophon/api"
)

// P12.1

func TestFacesThatMayBe(t *testing.T) {
	for what, f := range map[string]api.Face{
		"one empty glyph":                made(""),
		"one simple glyph":               made(dot),
		"two empty ones":                 made("", ""),
		"simple ones, one filled up":     made(dot, dot+"\x00", dot+zeros(5)),
		"a composite one":                made("", dot, of(1)),
		"the first one is composite":     made(of(1), dot),
		"of an empty one":                made("", of(0)),
		"of others, and of these again":  made("", dot, of(1), of(2, 1, 2)),
		"components that stand behind":   made(of(2), dot, of(1, 3), dot),
		"no characters":                  showing(made("", dot)),
		"not all glyphs are shown":       showing(made("", dot, dot), api.Chars{First: 5, Last: 5, Glyph: 2}),
		"one glyph for many code points": showing(made("", dot), api.Chars{First: 5, Last: 5, Glyph: 1}, api.Chars{First: 6, Last: 6, Glyph: 1}, api.Chars{First: 0x10ffff, Last: 0x10ffff, Glyph: 1}),
	} {
		checked(t, what, f, api.OK)
		f.M.Long = true
		checked(t, what+", long", f, api.OK)
	}
	for _, n := range []int{1, 2, 255, 256, 257, 4095, 4096} {
		checked(t, fmt.Sprint(n, " glyphs"), made(make([]string, n)...), api.OK)
		checked(t, fmt.Sprint(n, " dots"), made(slices.Repeat([]string{dot}, n)...), api.OK)
	}
}

func TestMetricsThatAreNotGood(t *testing.T) {
	for what, change := range map[string]func(m *api.Metrics){
		"Upem too small":         func(m *api.Metrics) { m.Upem = 15 },
		"Upem too great":         func(m *api.Metrics) { m.Upem = 16385 },
		"Upem 0":                 func(m *api.Metrics) { m.Upem = 0 },
		"Ascent":                 func(m *api.Metrics) { m.Ascent = 32768 },
		"Descent":                func(m *api.Metrics) { m.Descent = -32769 },
		"Gap":                    func(m *api.Metrics) { m.Gap = most },
		"Box":                    func(m *api.Metrics) { m.Box[3] = 32768 },
		"an Advance below 0":     func(m *api.Metrics) { m.Advance[0] = -1 },
		"an Advance too great":   func(m *api.Metrics) { m.Advance[2] = 65536 },
		"a Bearing too small":    func(m *api.Metrics) { m.Bearing[1] = -32769 },
		"a Bearing too great":    func(m *api.Metrics) { m.Bearing[1] = 32768 },
		"a Bearing less":         func(m *api.Metrics) { m.Bearing = m.Bearing[:2] },
		"a Bearing more":         func(m *api.Metrics) { m.Bearing = append(m.Bearing, 0) },
		"no Bearing":             func(m *api.Metrics) { m.Bearing = nil },
		"no Advance":             func(m *api.Metrics) { m.Advance = nil },
		"no Advance, no Bearing": func(m *api.Metrics) { m.Advance, m.Bearing = nil, nil },
	} {
		f := made("", dot, of(1))
		change(&f.M)
		checked(t, what, f, api.ErrHead)
		f.M.Long = true
		checked(t, what+", long", f, api.ErrHead)
	}
	checked(t, "nothing at all", api.Face{}, api.ErrHead)
	checked(t, "metrics without glyphs", api.Face{M: api.Metrics{Upem: 1000}}, api.ErrHead)
	checked(t, "too many glyphs", made(make([]string, 4097)...), api.ErrHead)
	checked(t, "far too many glyphs", made(make([]string, 70000)...), api.ErrHead)
	edge := made("", dot)
	edge.M = api.Metrics{Upem: 16384, Ascent: 32767, Descent: -32768, Gap: -32768, Box: [4]int{-32768, 32767, -32768, 32767}, Advance: []int{0, 65535}, Bearing: []int{-32768, 32767}}
	checked(t, "the edges of all", edge, api.OK)
	edge.M.Upem = 16
	checked(t, "the edges of all, the least Upem", edge, api.OK)
}

func TestNumbersOfGlyphs(t *testing.T) {
	for _, n := range []int{1, 2, 3, 10, 256, 4095, 4096} {
		for _, count := range []int{0, 1, 2, 3, 4, n - 1, n, n + 1, 2 * n, 4095, 4096, 4097, 9000} {
			for _, g := range []string{"", dot} {
				f := showing(made(slices.Repeat([]string{g}, count)...))
				f.M = made(make([]string, n)...).M
				want := api.OK
				if count != n {
					want = api.ErrGlyph
				}
				checked(t, fmt.Sprint(count, " glyphs, ", n, " advances"), f, want)
			}
		}
	}
	// What lies behind a list is none of it.
	f := made("", dot, dot)
	f.Glyphs = f.Glyphs[:2]
	checked(t, "a glyph less, but room for it", f, api.ErrGlyph)
}

func TestGlyphsThatAreWrong(t *testing.T) {
	for what, g := range map[string]string{
		"a letter":                  "a",
		"a byte 0":                  "\x00",
		"many bytes 0":              zeros(40),
		"no contours":               "\x00\x00" + dot[2:],
		"cut short":                 dot[:16],
		"something behind":          dot + "\x01",
		"something behind bytes 0":  dot + "\x00\x00\x00\x01",
		"a composite of none":       "\xff\xff" + eight,
		"another kind":              "\xff\xfe" + of(0)[2:],
		"a component cut short":     of(0)[:15],
		"a component, and one more": of(0) + "\x01",
		"another one is not there":  "\xff\xff" + eight + two(32) + two(0) + "\x01\x02",
		"too many components":       of(make([]int, 65)...),
		"two kinds of scale":        "\xff\xff" + eight + two(8|64) + two(0) + zeros(12),
		"instructions cut short":    "\xff\xff" + eight + two(256) + two(0) + "\x01\x02\x00\x03ab",
		"bytes ff":                  strings.Repeat("\xff", 40),
	} {
		for _, n := range []int{1, 2, 5, 100} {
			f := made(slices.Repeat([]string{dot}, n)...)
			for _, at := range []int{0, n / 2, n - 1} {
				checked(t, fmt.Sprint(what, ", glyph ", at, " of ", n), with(f, at, g), api.ErrGlyph)
			}
		}
	}
	checked(t, "as many components as may be", made("", of(make([]int, 64)...)), api.OK)
}

func TestNumbersOfComponents(t *testing.T) {
	for _, n := range []int{2, 3, 10, 255, 256, 257, 258, 4095, 4096} {
		f := made(slices.Repeat([]string{dot}, n)...)
		for _, at := range []int{0, (n - 1) / 2} {
			for _, p := range []int{0, 1, n - 2, n - 1, n, n + 1, n + 256, 4096, 32768, 65535} {
				if p == at {
					continue
				}
				want := api.OK
				if p >= n {
					want = api.ErrGlyph
				}
				what := fmt.Sprint(n, " glyphs, ", at, " is made of ", p)
				checked(t, what, with(f, at, of(p)), want)
				checked(t, what+" and others", with(f, at, of(p, n-1, n-1)), want)
				checked(t, what+" between others", with(f, at, of(n-1, p, n-1)), want)
				checked(t, what+" behind others", with(f, at, of(n-1, n-1, p)), want)
				many := slices.Repeat([]int{n - 1}, 64)
				for _, place := range []int{0, 31, 63} {
					many[place] = p
				}
				checked(t, what+" three times of 64", with(f, at, of(many...)), want)
			}
		}
		checked(t, "the last glyph names the one behind it", with(f, n-1, of(n)), api.ErrGlyph)
		checked(t, "the last glyph names the one ahead of it", with(f, n-1, of(n-2)), api.OK)
		checked(t, "the last glyph names itself", with(f, n-1, of(n-1)), api.ErrLoop)
	}
	checked(t, "one glyph, of itself", made(of(0)), api.ErrLoop)
	checked(t, "one glyph, of the next", made(of(1)), api.ErrGlyph)
}

// placedBy is a face of n glyphs in which the glyph with the place i of a way
// stands where the order says; dots stand everywhere else.
func placedBy(n int, order []int, way ...string) api.Face {
	f := made(slices.Repeat([]string{dot}, n)...)
	for i, g := range way {
		f.Glyphs[order[i]] = g
	}
	return f
}

// orders are several ways to give numbers to so many glyphs.
func orders(n int) [][]int {
	up := upTo(0, n-1)
	down := slices.Clone(up)
	slices.Reverse(down)
	mixed := slices.Clone(up)
	next := numbers(n)
	for i := range mixed {
		j := next(n)
		mixed[i], mixed[j] = mixed[j], mixed[i]
	}
	return [][]int{up, down, mixed}
}

// wayOf is k composite glyphs, each made of the next one; the last one is made
// of end. beside stands ahead of and behind each component.
func wayOf(order []int, k, end int, beside ...int) []string {
	var way []string
	for i := range k {
		p := end
		if i < k-1 {
			p = order[i+1]
		}
		way = append(way, of(slices.Concat(beside, []int{p}, beside)...))
	}
	return way
}

func TestLoops(t *testing.T) {
	checked(t, "itself", made("", of(1)), api.ErrLoop)
	checked(t, "itself, the first", made(of(0), dot), api.ErrLoop)
	checked(t, "itself, of several components", made("", dot, of(0, 1, 2)), api.ErrLoop)
	checked(t, "itself, between components", made("", dot, of(0, 2, 1)), api.ErrLoop)
	checked(t, "itself, and others", made("", dot, of(2, 0, 1)), api.ErrLoop)
	checked(t, "each other", made("", of(2), of(1)), api.ErrLoop)
	checked(t, "each other, and others", made("", of(0, 2), of(0, 1, 0)), api.ErrLoop)
	checked(t, "a loop that another leads to", made("", of(2), of(3), of(2)), api.ErrLoop)
	checked(t, "a loop with a way out", made("", of(2, 0), of(3, 0), of(1, 0)), api.ErrLoop)
	checked(t, "a loop that is not shown", showing(made("", dot, of(2))), api.ErrLoop)
	checked(t, "two loops", made(of(0), of(1)), api.ErrLoop)
	for _, k := range []int{1, 2, 3, 4, 7, 8, 9, 10, 16, 17, 64, 200} {
		n := k + 3
		for i, order := range orders(n) {
			what := fmt.Sprint("a loop of ", k, ", order ", i)
			checked(t, what, placedBy(n, order, wayOf(order, k, order[0])...), api.ErrLoop)
			checked(t, what+", dots beside it", placedBy(n, order, wayOf(order, k, order[0], order[n-1])...), api.ErrLoop)
			checked(t, what+", to its last one", placedBy(n, order, wayOf(order, k, order[k-1])...), api.ErrLoop)
			checked(t, what+", to a middle one", placedBy(n, order, wayOf(order, k, order[k/2])...), api.ErrLoop)
			want := api.OK
			if k > 8 {
				want = api.ErrLoop
			}
			checked(t, what+", opened", placedBy(n, order, wayOf(order, k, order[n-1])...), want)
		}
	}
	up := upTo(0, 4095)
	checked(t, "a loop of all", placedBy(4096, up, wayOf(up, 4096, 0)...), api.ErrLoop)
	checked(t, "a way of all, and back to the middle", placedBy(4096, up, wayOf(up, 4096, 2048)...), api.ErrLoop)
	checked(t, "all of themselves", placedBy(4096, up, wayOf(up, 4096, 4095)...), api.ErrLoop)
	checked(t, "the last of all", with(placedBy(4096, up), 4095, of(4095)), api.ErrLoop)
}

func TestWaysDown(t *testing.T) {
	for k := range 20 {
		n := k + 3
		want := api.OK
		if k > 8 {
			want = api.ErrLoop
		}
		for i, order := range orders(n) {
			for _, end := range []string{"", dot} {
				what := fmt.Sprintf("%d composite glyphs, then %q, order %d", k, end, i)
				f := placedBy(n, order, wayOf(order, k, order[k])...)
				f.Glyphs[order[k]] = end
				checked(t, what, f, want)
				f = placedBy(n, order, wayOf(order, k, order[k], order[n-1])...)
				f.Glyphs[order[k]] = end
				checked(t, what+", others beside", f, want)
				f = placedBy(n, order, wayOf(order, k, order[k], order[k])...)
				f.Glyphs[order[k]] = end
				checked(t, what+", each made of the end, too", f, want)
			}
			if k > 0 {
				f := placedBy(n, order, wayOf(order, k, order[k-1])...)
				checked(t, fmt.Sprint(k, " composite glyphs, and no end"), f, api.ErrLoop)
			}
		}
	}
	up := upTo(0, 4095)
	checked(t, "a way of nearly all", placedBy(4096, up, wayOf(up, 4095, 4095)...), api.ErrLoop)
	var ways []string
	for i := range 4096 {
		if i%9 == 8 || i == 4095 {
			ways = append(ways, dot)
		} else {
			ways = append(ways, of(i+1))
		}
	}
	checked(t, "many ways of eight", made(ways...), api.OK)
	ways[4094-(4094%9)+6], ways[8] = dot, of(9)
	checked(t, "many ways of eight, two of them one", made(ways...), api.ErrLoop)
}

// One of several ways that meet may be the one that is too long.
func TestWaysThatMeet(t *testing.T) {
	checked(t, "a glyph twice", made("", dot, of(1, 1)), api.OK)
	checked(t, "a glyph by two ways", made("", dot, of(1), of(1), of(2, 3)), api.OK)
	checked(t, "a glyph by ways of different lengths", made("", dot, of(1), of(2), of(3, 2, 1)), api.OK)
	for below := range 9 {
		for around := range 9 {
			// The glyphs 1 to below go down from where the ways meet, to 0; those
			// behind them go around, to there; the last one goes both ways.
			glyphs := []string{dot}
			for i := range below {
				glyphs = append(glyphs, of(i))
			}
			meet := below
			for range around {
				glyphs = append(glyphs, of(len(glyphs)-1))
			}
			last := len(glyphs) - 1
			want := api.OK
			if below+around+1 > 8 {
				want = api.ErrLoop
			}
			what := fmt.Sprint(below, " below, ", around, " around")
			checked(t, what+", straight first", made(append(slices.Clone(glyphs), of(meet, last))...), want)
			checked(t, what+", around first", made(append(slices.Clone(glyphs), of(last, meet))...), want)
			many := append(slices.Repeat([]int{meet, 0}, 31), last, meet)
			checked(t, what+", of 64", made(append(slices.Clone(glyphs), of(many...))...), want)
		}
	}
}

// There are 64^8 ways and more.
func TestManyComponentsOnEachLevel(t *testing.T) {
	for _, wide := range []int{1, 2, 64, 370} {
		for levels := 1; levels <= 10; levels++ {
			glyphs := slices.Repeat([]string{dot}, wide)
			for range levels {
				from := len(glyphs) - wide
				for i := range wide {
					var parts []int
					for j := range 64 {
						parts = append(parts, from+(i+j)%wide)
					}
					glyphs = append(glyphs, of(parts...))
				}
			}
			want := api.OK
			if levels > 8 {
				want = api.ErrLoop
			}
			what := fmt.Sprint(levels, " levels of ", wide)
			checked(t, what, made(glyphs...), want)
			slices.Reverse(glyphs)
			for i, g := range glyphs {
				glyphs[i] = backwards(g, len(glyphs))
			}
			checked(t, what+", backwards", made(glyphs...), want)
			glyphs[len(glyphs)-1] = of(0)
			checked(t, what+", and the last one made of the first", made(glyphs...), api.ErrLoop)
		}
	}
}

// backwards is a glyph whose components are counted from the end.
func backwards(g string, n int) string {
	if !strings.HasPrefix(g, "\xff\xff") {
		return g
	}
	var parts []int
	for at := 12; at < len(g); at += 6 {
		parts = append(parts, n-1-int(g[at])<<8-int(g[at+1]))
	}
	return of(parts...)
}

func TestCharsThatAreNotGood(t *testing.T) {
	f := made("", dot, dot)
	for what, l := range map[string][]api.Chars{
		"First above Last":          {{First: 6, Last: 5, Glyph: 1}},
		"glyph 0":                   {{First: 5, Last: 5, Glyph: 0}},
		"a glyph below 0":           {{First: 5, Last: 5, Glyph: -1}},
		"the glyph behind the last": {{First: 5, Last: 5, Glyph: 3}},
		"it goes on behind":         {{First: 5, Last: 7, Glyph: 1}},
		"the last of two":           {{First: 5, Last: 5, Glyph: 1}, {First: 7, Last: 8, Glyph: 2}},
		"the first of two":          {{First: 5, Last: 6, Glyph: 2}, {First: 8, Last: 8, Glyph: 1}},
		"good for MaxGlyphs":        {{First: 5, Last: 99, Glyph: 4000}},
		"no code point":             {{First: 0xd800, Last: 0xd800, Glyph: 1}},
		"beyond the code points":    {{First: 0x110000, Last: 0x110000, Glyph: 1}},
		"below them":                {{First: -1, Last: -1, Glyph: 1}},
		"falling":                   {{First: 6, Last: 6, Glyph: 1}, {First: 5, Last: 5, Glyph: 1}},
		"twice":                     {{First: 6, Last: 6, Glyph: 1}, {First: 6, Last: 6, Glyph: 1}},
		"going on":                  {{First: 5, Last: 5, Glyph: 1}, {First: 6, Last: 6, Glyph: 2}},
		"great numbers":             {{First: least, Last: most, Glyph: most}},
		"great glyphs":              {{First: 5, Last: 5, Glyph: most}},
	} {
		checked(t, what, showing(f, l...), api.ErrCmap)
		checked(t, what+", in a greater face", showing(made("", dot, of(1), of(2), dot), l...), modelCheck(showing(made("", dot, of(1), of(2), dot), l...)))
	}
	for _, n := range []int{1, 2, 3, 256, 4095, 4096} {
		f := made(make([]string, n)...)
		for _, g := range []int{1, n - 2, n - 1, n, n + 1, 4095, 4096} {
			want := api.OK
			if g < 1 || g >= n {
				want = api.ErrCmap
			}
			checked(t, fmt.Sprint("glyph ", g, " of ", n), showing(f, api.Chars{First: 70, Last: 70, Glyph: g}), want)
		}
		checked(t, fmt.Sprint("all, and one more, of ", n), showing(f, api.Chars{First: 70, Last: 70 + n - 1, Glyph: 1}), api.ErrCmap)
	}
	var spans []api.Chars
	for i := range 4097 {
		spans = append(spans, api.Chars{First: 3 * i, Last: 3 * i, Glyph: 1})
	}
	checked(t, "as many spans as may be", showing(f, spans[:4096]...), api.OK)
	checked(t, "one span more", showing(f, spans...), api.ErrCmap)
}

// fault is how a face or its file is made wrong, and the error that is told of
// it; of two the one that stands ahead in a list is told.
type fault struct {
	what   string
	err    api.Errno
	face   func(f *api.Face)
	tables func(l []api.Table) []api.Table
	file   func(s string) string
}

// base has room for all faults: none of them touches what another one does.
func base() api.Face {
	return made("", dot, of(1), of(1, 2), dot, dot, dot, dot, dot, dot, dot, dot, dot, dot, dot, dot, dot, dot, dot, dot)
}

func glyphFaults() []fault {
	return []fault{
		{what: "a glyph that is wrong", err: api.ErrGlyph, face: func(f *api.Face) { f.Glyphs[4] = "a" }},
		{what: "a composite glyph that is wrong", err: api.ErrGlyph, face: func(f *api.Face) { f.Glyphs[5] = of(1) + "\x01" }},
		{what: "a component that is none", err: api.ErrGlyph, face: func(f *api.Face) { f.Glyphs[6] = of(1, len(f.Glyphs)+1) }},
		{what: "a glyph of itself", err: api.ErrLoop, face: func(f *api.Face) { f.Glyphs[7] = of(7) }},
		{what: "two of each other", err: api.ErrLoop, face: func(f *api.Face) { f.Glyphs[8], f.Glyphs[9] = of(9), of(8) }},
		{what: "nine in one another", err: api.ErrLoop, face: func(f *api.Face) {
			for i := 10; i < 19; i++ {
				f.Glyphs[i] = of(i + 1)
			}
		}},
	}
}

func checkFaults() []fault {
	return slices.Concat([]fault{
		{what: "Upem", err: api.ErrHead, face: func(f *api.Face) { f.M.Upem = 0 }},
		{what: "an Advance", err: api.ErrHead, face: func(f *api.Face) { f.M.Advance[1] = -1 }},
		{what: "a Bearing more", err: api.ErrHead, face: func(f *api.Face) { f.M.Bearing = append(f.M.Bearing, 0) }},
		{what: "a glyph more", err: api.ErrGlyph, face: func(f *api.Face) { f.Glyphs = append(f.Glyphs, "") }},
	}, glyphFaults(), []fault{
		{what: "Chars", err: api.ErrCmap, face: func(f *api.Face) { f.Chars = []api.Chars{{First: 5, Last: 5, Glyph: 0}} }},
		{what: "Chars for more glyphs", err: api.ErrCmap, face: func(f *api.Face) { f.Chars = []api.Chars{{First: 5, Last: 5, Glyph: 50}} }},
	})
}

func TestTheFirstErrorOfAFace(t *testing.T) {
	checked(t, "no fault", base(), api.OK)
	faults := checkFaults()
	for i, a := range faults {
		for _, b := range faults[i:] {
			f := base()
			a.face(&f)
			if a.what != b.what {
				b.face(&f)
			}
			checked(t, a.what+", "+b.what, f, a.err)
		}
	}
	fewer := base()
	fewer.Glyphs = fewer.Glyphs[:19]
	for _, a := range faults[4:] {
		f := copied(fewer)
		a.face(&f)
		checked(t, "a glyph less, "+a.what, f, api.ErrGlyph)
	}
	checked(t, "a glyph of itself and of none", made("", of(1, 2)), api.ErrGlyph)
	checked(t, "a glyph of none and of itself", made("", of(2, 1)), api.ErrGlyph)
	checked(t, "a loop ahead of a wrong glyph", made("", of(1), "a"), api.ErrGlyph)
	checked(t, "a wrong glyph ahead of a loop", made("", "a", of(2)), api.ErrGlyph)
}

func TestManyFaces(t *testing.T) {
	count := map[api.Errno]int{}
	for seed := range 20000 {
		next := numbers(seed)
		n := 1 + next(16)
		free := next(3) == 0 // components may stand behind
		glyphs := slices.Repeat([]string{dot}, n)
		for i := range glyphs {
			var parts []int
			for range next(4) {
				if free {
					parts = append(parts, next(n+next(40)/39))
				} else if i > 0 {
					parts = append(parts, i-1-next(min(i, 3)))
				}
			}
			if len(parts) > 0 {
				glyphs[i] = of(parts...)
			}
			if next(60) == 0 {
				glyphs[i] = glyphs[i][1:]
			}
		}
		f := made(glyphs...)
		if next(8) == 0 {
			f.Chars = append(f.Chars, api.Chars{First: 500, Last: 500 + next(3), Glyph: next(n + 1)})
		}
		if next(20) == 0 {
			f.M.Upem = next(32)
		}
		want := modelCheck(f)
		checked(t, fmt.Sprint("seed ", seed), f, want)
		count[want]++
	}
	for _, err := range []api.Errno{api.OK, api.ErrHead, api.ErrGlyph, api.ErrLoop, api.ErrCmap} {
		if count[err] < 400 {
			t.Errorf("%v: too few of one kind", count)
		}
	}
}
