package sheet_test

import (
	"fmt"
	"slices"
	"strings"
	"testing"

	"colophon/api"
	"colophon/sheet"
)

// P19.3

func TestWeights(t *testing.T) {
	for s, want := range map[string][3]int{
		"*": {}, "p": {0, 0, 1}, ".a": {0, 1, 0}, "#i": {1, 0, 0}, "p.a#i": {1, 1, 1}, "p.a > b": {0, 1, 2}, "#x.y.z *": {1, 2, 0},
		"p p p": {0, 0, 3}, "* > *": {}, ".a.a.a": {0, 3, 0}, "#i #i > #j": {3, 0, 0}, "a.b c.d.e > f#g.h": {1, 4, 3}, "*.a#i *": {1, 1, 0},
	} {
		l, _, err := sheet.Parse(s + "{}")
		if err != api.OK {
			t.Fatal(s, err)
		}
		weighs(t, l[0].Selectors[0], want)
	}
}

func TestWeightsOfAnySelector(t *testing.T) {
	weighs(t, api.Selector{}, [3]int{})
	weighs(t, api.Selector{Parts: []api.Part{}}, [3]int{})
	weighs(t, parts(star()), [3]int{})
	weighs(t, parts(api.Part{Classes: []string{}}), [3]int{})
	weighs(t, parts(class("")), [3]int{0, 1, 0})
	weighs(t, parts(class("", "", "a")), [3]int{0, 3, 0})
	weighs(t, parts(child(named(""))), [3]int{})
	weighs(t, parts(child(named("p"))), [3]int{0, 0, 1})
	weighs(t, parts(named("*")), [3]int{0, 0, 1})
	weighs(t, parts(id("P", named(" ", "\xff"))), [3]int{1, 1, 1})
	weighs(t, parts(id("\x00", star()), named("\x00")), [3]int{1, 0, 1})
	for _, n := range []int{16, 17, 100, 70000} {
		weighs(t, parts(times(n, named("p"))...), [3]int{0, 0, n})
		weighs(t, parts(times(n, child(id("i", star())))...), [3]int{n, 0, 0})
		weighs(t, parts(times(n, id("i", named("p", "a", "b")))...), [3]int{n, 2 * n, n})
		weighs(t, parts(class(times(n, "a")...)), [3]int{0, n, 0})
		weighs(t, parts(times(n, star())...), [3]int{})
	}
}

// P19.4

func element(name, id string, classes ...string) api.Facts {
	return api.Facts{Name: name, Id: id, Classes: classes}
}

func TestOfNothing(t *testing.T) {
	path := []api.Facts{element("doc", "")}
	for _, none := range []api.Selector{{}, {Parts: []api.Part{}}} {
		matches(t, none, path, false)
		matches(t, none, nil, false)
		matches(t, none, []api.Facts{}, false)
		matches(t, none, []api.Facts{{}}, false)
	}
	for _, x := range []api.Selector{parts(star()), parts(named("doc")), parts(child(star())), parts(star(), star()), parts(star(), child(star()))} {
		matches(t, x, nil, false)
		matches(t, x, []api.Facts{}, false)
	}
	matches(t, parts(star()), []api.Facts{{}}, true)
	matches(t, parts(child(star())), []api.Facts{{}}, true)
	matches(t, parts(named("p")), []api.Facts{{}}, false)
	matches(t, parts(id("i", star())), []api.Facts{{}}, false)
	matches(t, parts(class("a")), []api.Facts{{}}, false)
	matches(t, parts(class("")), []api.Facts{{}}, false)
	matches(t, parts(star(), star()), []api.Facts{{}}, false)
	matches(t, parts(star(), child(star())), []api.Facts{{}}, false)
}

func TestOnePart(t *testing.T) {
	e := element("p", "i", "a", "b", "b", "c")
	for _, x := range []api.Part{
		star(), named("p"), id("i", star()), class("a"), class("b"), class("c"), class("a", "b"), class("b", "a"), class("c", "a"), class("c", "b", "a"), class("b", "b"), class("b", "b", "b"), class("a", "a"), class("a", "a", "a"),
		named("p", "a"), named("p", "c", "b"), id("i", named("p")), id("i", class("c")), id("i", named("p", "a", "b", "c", "a")),
		{Name: "p", Classes: []string{}}, class(times(16, "a")...), class(times(17, "b")...), class(append(times(40, "b"), "c")...),
	} {
		for _, path := range [][]api.Facts{{e}, {element("doc", ""), e}, {e, e}, {element("q", "j"), element("p", "k"), e}} {
			matches(t, parts(x), path, true)
			matches(t, parts(child(x)), path, true)
			matches(t, parts(x), append(path, element("q", "")), modelFits(x, element("q", "")))
		}
	}
	for _, x := range []api.Part{
		named("q"), named("P"), named("pp"), named("p "), named(" "), named("*"), named("i"), named("a"), id("j", star()), id("I", star()), id("p", star()), id("a", star()), id("ii", star()), class("d"), class("A"), class("i"), class("p"), class("ab"), class("a b"), class(""), class("a", ""), class("a", "d"), class("d", "a"), class("a", "b", "c", "d"),
		named("p", "d"), named("q", "a"), id("j", named("p")), id("i", named("q")), id("i", named("p", "d")), id("j", named("p", "a")), id("i", named("q", "a")),
		class(append(times(16, "a"), "d")...), class(append(times(16, "a"), "")...), class(append([]string{"d"}, times(30, "a")...)...),
	} {
		for _, path := range [][]api.Facts{{e}, {element("doc", ""), e}, {e, e}} {
			matches(t, parts(x), path, false)
			matches(t, parts(star(), x), path, false)
			matches(t, parts(child(x)), path, false)
		}
	}
}

// Names, ids and classes are held against each other as they are.
func TestEmptyNamesAndClasses(t *testing.T) {
	matches(t, parts(star()), []api.Facts{element("", "")}, true)
	matches(t, parts(class("")), []api.Facts{element("", "", "")}, true)
	matches(t, parts(class("", "")), []api.Facts{element("", "", "")}, true)
	matches(t, parts(class("")), []api.Facts{element("p", "i", "a", "")}, true)
	matches(t, parts(class("")), []api.Facts{element("p", "i", "a")}, false)
	matches(t, parts(class("a")), []api.Facts{element("p", "i", "")}, false)
	matches(t, parts(class(times(20, "")...)), []api.Facts{element("p", "i", "a", "")}, true)
	matches(t, parts(class(times(20, "")...)), []api.Facts{element("p", "i", "a")}, false)
	matches(t, parts(named("p")), []api.Facts{element("", "")}, false)
	matches(t, parts(id("i", star())), []api.Facts{element("p", "")}, false)
	matches(t, parts(star()), []api.Facts{element("p", "i", "a", "a")}, true)
	matches(t, parts(class("a")), []api.Facts{element("p", "i", "a", "a")}, true)
	matches(t, parts(class("a", "a", "a")), []api.Facts{element("p", "i", "a", "a")}, true)
	matches(t, parts(named("\xff \x00", "B C")), []api.Facts{element("\xff \x00", "", "B C")}, true)
	matches(t, parts(id("\xff", star())), []api.Facts{element("", "\xfe")}, false)
}

func TestPartsAhead(t *testing.T) {
	path := func(names string) []api.Facts {
		var l []api.Facts
		for _, n := range strings.Fields(names) {
			l = append(l, element(n, ""))
		}
		return l
	}
	for _, x := range []struct {
		selector, path string
		asked          bool
	}{
		{"a b", "a b", true}, {"a b", "b a", false}, {"a b", "a b a", false}, {"a b", "a c b", true}, {"a b", "c a c c b", true}, {"a b", "b", false}, {"a b", "c b", false}, {"a b", "b b", false}, {"a b", "a", false}, {"a b", "a c", false},
		{"a > b", "a b", true}, {"a > b", "a c b", false}, {"a > b", "b", false}, {"a > b", "a a b", true}, {"a > b", "a b b", false}, {"a > b", "a b a", false}, {"a > b", "c a b", true},
		{"a a", "a", false}, {"a a", "a a", true}, {"a a", "a b a", true}, {"a > a", "a b a", false}, {"a > a", "a a", true}, {"a a a", "a a", false}, {"a a a", "a a a", true}, {"a a a", "a b a b a", true},
		{"a b c", "a b c", true}, {"a b c", "b a c", false}, {"a b c", "a a b b c", true}, {"a b c", "b a b c", true}, {"a b c", "b a c c", false}, {"a b c", "a c", false}, {"a b c", "a b", false},
		{"a > b > c", "a b c", true}, {"a > b > c", "a b b c", false}, {"a > b > c", "a a b c", true}, {"a > b > c", "a b c c", false}, {"a > b > c", "b c", false},
		{"a > b c", "a b c", true}, {"a > b c", "a b x c", true}, {"a > b c", "a x b c", false}, {"a b > c", "a x b c", true}, {"a b > c", "a b x c", false}, {"a b > c", "b a c", false},
		// Several b, of which one alone stands in the right one.
		{"a > b c", "a b x b c", true}, {"a > b c", "x b a b c", true}, {"a > b c", "a b x b x b c", true}, {"a > b c", "x b x b a b c", true}, {"a > b c", "x b a x b c", false}, {"a > b c", "a x b x b c", false}, {"a > b c", "x b a b x b c", true},
		{"a > b b", "a b b", true}, {"a > b b", "a b x b", true}, {"a > b b", "a b", false}, {"a > b b", "x b a b", false}, {"a > b b", "a b a b", true},
		{"a > b > c d", "a b c x b c d", true}, {"a > b > c d", "x b c a b c d", true}, {"a > b > c d", "a x b c x c d", false}, {"a > b > c d", "a b c a c b c d", true},
		{"a > b c > d", "a b c d", true}, {"a > b c > d", "a b x c d", true}, {"a > b c > d", "a b x b c d", true}, {"a > b c > d", "a b c x d", false}, {"a > b c > d", "a x b c d", false},
		{"a b > a b", "a b a b", true}, {"a b > a b", "a b a b a b", true}, {"a b > a b", "a b a x b", true}, {"a b > a b", "a b a", false}, {"a b > a b", "a x b a b", true}, {"a b > a b", "a b x a b", false},
		{"x a > b c > d e", "x a b c d e", true}, {"x a > b c > d e", "x a b a x b c d c x d e", true}, {"x a > b c > d e", "a b x c d e", false}, {"x a > b c > d e", "a b x a b c d c d e", true}, {"x a > b c > d e", "a x b c d e", false},
		{"* *", "a", false}, {"* *", "a b", true}, {"* > * > *", "a b", false}, {"* > * > *", "a b c", true}, {"* > * *", "a b c", true}, {"* b", "b", false}, {"* > b", "x b", true}, {"a * b", "a b", false}, {"a * b", "a x b", true}, {"a * b", "a x y z b", true}, {"a > * > b", "a x y b", false}, {"a > * > b", "a x b", true},
		{"a * > b", "a b b", true}, {"a * > b", "a b", false}, {"a > * b", "a a b", true}, {"a > * b", "a b", false}, {"a > * b", "x a b", false}, {"a > * b", "a x x x b", true},
	} {
		l, _, err := sheet.Parse(x.selector + "{}")
		if err != api.OK {
			t.Fatal(x.selector, err)
		}
		selector := l[0].Selectors[0]
		matches(t, selector, path(x.path), x.asked)
		// The first part's Child is not asked.
		selector.Parts[0].Child = true
		matches(t, selector, path(x.path), x.asked)
		matches(t, selector, append(path("doc"), path(x.path)...), modelMatch(selector.Parts, append(path("doc"), path(x.path)...)))
	}
}

// Every selector of up to four parts and every path of up to six elements of a
// few kinds.
func TestAllShortSelectors(t *testing.T) {
	kinds := []api.Part{star(), named("a"), class("b"), child(star()), child(named("a")), child(class("b"))}
	elements := []api.Facts{element("a", ""), element("x", "", "b"), element("a", "", "c", "b")}
	selectors, paths := [][]api.Part{nil}, [][]api.Facts{nil}
	for from, n := 0, 0; n < 4; n++ {
		for to := len(selectors); from < to; from++ {
			for _, p := range kinds {
				selectors = append(selectors, append(slices.Clone(selectors[from]), p))
			}
		}
	}
	for from, n := 0, 0; n < 6; n++ {
		for to := len(paths); from < to; from++ {
			for _, e := range elements {
				paths = append(paths, append(slices.Clone(paths[from]), e))
			}
		}
	}
	yes := 0
	for _, x := range selectors {
		for _, path := range paths {
			got := sheet.Match(api.Selector{Parts: x}, path)
			if got != modelMatch(x, path) {
				t.Errorf("Match(%s, %s) is %v", tell(x), tell(path), got)
			}
			if got {
				yes++
			}
		}
	}
	if all := len(selectors) * len(paths); yes < all/4 || yes > 3*all/4 {
		t.Errorf("%d of %d match", yes, len(selectors)*len(paths))
	}
}

// The answer comes soon where trying all places would never end.
func TestLongSelectorsAndPaths(t *testing.T) {
	for _, n := range []int{40, 1000, 60000} {
		path := times(n, element("a", "", "c"))
		for _, x := range []struct {
			parts []api.Part
			asked bool
		}{
			{times(n, named("a")), true}, {times(n+1, named("a")), false}, {append([]api.Part{named("b")}, times(n/2, named("a"))...), false},
			{times(n, child(class("c"))), true}, {times(n+1, child(class("c"))), false}, {append([]api.Part{named("b")}, times(n/2, child(named("a")))...), false},
			{append(append([]api.Part{named("b")}, times(12, child(named("a")))...), times(12, named("a"))...), false},
			{append(times(12, child(named("a"))), times(12, named("a"))...), n >= 24},
		} {
			if got := sheet.Match(api.Selector{Parts: x.parts}, path); got != x.asked {
				t.Errorf("%d parts and %d elements: %v", len(x.parts), n, got)
			}
		}
		long := times(n, "a")
		for i := range long {
			long[i] = fmt.Sprint("c", i)
		}
		back := slices.Clone(long)
		slices.Reverse(back)
		if !sheet.Match(parts(class(long...)), []api.Facts{element("", "", back...)}) || sheet.Match(parts(class(append(back, "d")...)), []api.Facts{element("", "", long...)}) {
			t.Errorf("%d classes", n)
		}
	}
}

// P19.2: Same.

func TestSame(t *testing.T) {
	full := func() []api.Rule {
		return []api.Rule{
			{Selectors: some(parts(id("i", named("p", "a", "b")), child(named("q", "c"))), parts(named("r"))), Decls: []api.Decl{decl(0, 1), decl(1, 65536)}},
			{Selectors: some(parts(star(), star()))},
			rule(parts(named("s"))),
		}
	}
	same(t, full(), full(), true)
	for i, change := range []func(l []api.Rule) []api.Rule{
		func(l []api.Rule) []api.Rule { return nil },
		func(l []api.Rule) []api.Rule { return l[:2] },
		func(l []api.Rule) []api.Rule { return l[1:] },
		func(l []api.Rule) []api.Rule { return append(l, api.Rule{}) },
		func(l []api.Rule) []api.Rule { return append(l, l[2]) },
		func(l []api.Rule) []api.Rule { l[0], l[1] = l[1], l[0]; return l },
		func(l []api.Rule) []api.Rule { l[1], l[2] = l[2], l[1]; return l },
		func(l []api.Rule) []api.Rule { l[0].Selectors = l[0].Selectors[:1]; return l },
		func(l []api.Rule) []api.Rule { l[0].Selectors = l[0].Selectors[1:]; return l },
		func(l []api.Rule) []api.Rule { l[1].Selectors = nil; return l },
		func(l []api.Rule) []api.Rule { l[2].Selectors = append(l[2].Selectors, api.Selector{}); return l },
		func(l []api.Rule) []api.Rule { slices.Reverse(l[0].Selectors); return l },
		func(l []api.Rule) []api.Rule { l[0].Decls = l[0].Decls[:1]; return l },
		func(l []api.Rule) []api.Rule { l[0].Decls = nil; return l },
		func(l []api.Rule) []api.Rule { slices.Reverse(l[0].Decls); return l },
		func(l []api.Rule) []api.Rule { l[1].Decls = append(l[1].Decls, api.Decl{}); return l },
		func(l []api.Rule) []api.Rule { l[0].Decls[0].Prop = -1; return l },
		func(l []api.Rule) []api.Rule { l[0].Decls[1].Prop = 2; return l },
		func(l []api.Rule) []api.Rule { l[0].Decls[0].Value = 0; return l },
		func(l []api.Rule) []api.Rule { l[0].Decls[1].Value++; return l },
		func(l []api.Rule) []api.Rule { x := l[0].Selectors; x[0].Parts = x[0].Parts[:1]; return l },
		func(l []api.Rule) []api.Rule { x := l[0].Selectors; x[0].Parts = x[0].Parts[1:]; return l },
		func(l []api.Rule) []api.Rule { l[0].Selectors[1].Parts = nil; return l },
		func(l []api.Rule) []api.Rule { slices.Reverse(l[0].Selectors[0].Parts); return l },
		func(l []api.Rule) []api.Rule {
			l[1].Selectors[0].Parts = append(l[1].Selectors[0].Parts, star())
			return l
		},
		func(l []api.Rule) []api.Rule { l[0].Selectors[0].Parts[0].Name = "P"; return l },
		func(l []api.Rule) []api.Rule { l[0].Selectors[0].Parts[0].Name = ""; return l },
		func(l []api.Rule) []api.Rule { l[1].Selectors[0].Parts[1].Name = "*"; return l },
		func(l []api.Rule) []api.Rule { l[0].Selectors[0].Parts[0].Id = "j"; return l },
		func(l []api.Rule) []api.Rule { l[0].Selectors[0].Parts[0].Id = ""; return l },
		func(l []api.Rule) []api.Rule { l[2].Selectors[0].Parts[0].Id = "i"; return l },
		func(l []api.Rule) []api.Rule { l[0].Selectors[0].Parts[0].Child = true; return l },
		func(l []api.Rule) []api.Rule { l[0].Selectors[0].Parts[1].Child = false; return l },
		func(l []api.Rule) []api.Rule { l[1].Selectors[0].Parts[1].Child = true; return l },
		func(l []api.Rule) []api.Rule { c := l[0].Selectors[0].Parts; c[0].Classes = c[0].Classes[:1]; return l },
		func(l []api.Rule) []api.Rule { c := l[0].Selectors[0].Parts; c[0].Classes = c[0].Classes[1:]; return l },
		func(l []api.Rule) []api.Rule { slices.Reverse(l[0].Selectors[0].Parts[0].Classes); return l },
		func(l []api.Rule) []api.Rule { l[0].Selectors[0].Parts[1].Classes[0] = "C"; return l },
		func(l []api.Rule) []api.Rule { l[0].Selectors[0].Parts[1].Classes = nil; return l },
		func(l []api.Rule) []api.Rule { l[1].Selectors[0].Parts[0].Classes = []string{""}; return l },
		func(l []api.Rule) []api.Rule {
			c := &l[0].Selectors[0].Parts[0].Classes
			*c = append(*c, "b")
			return l
		},
	} {
		if l := change(full()); sheet.Same(l, full()) || modelSame(l, full()) {
			t.Errorf("change %d: %s is the same", i, tell(l))
		} else {
			same(t, l, full(), false)
			same(t, change(full()), l, true)
		}
	}
}

// nil and empty lists are one.
func TestEmptyListsAreSame(t *testing.T) {
	same(t, nil, []api.Rule{}, true)
	same(t, []api.Rule{{}}, []api.Rule{{Selectors: []api.Selector{}, Decls: []api.Decl{}}}, true)
	same(t, []api.Rule{{}}, nil, false)
	same(t, []api.Rule{{}}, []api.Rule{{}, {}}, false)
	same(t, []api.Rule{rule(api.Selector{})}, []api.Rule{rule(api.Selector{Parts: []api.Part{}})}, true)
	same(t, []api.Rule{rule(api.Selector{})}, []api.Rule{{}}, false)
	same(t, []api.Rule{rule(parts(star()))}, []api.Rule{rule(parts(api.Part{Classes: []string{}}))}, true)
	same(t, []api.Rule{rule(parts(star()))}, []api.Rule{rule(api.Selector{})}, false)
	same(t, []api.Rule{declares()}, []api.Rule{{Selectors: some(parts(star())), Decls: make([]api.Decl, 0, 5)}}, true)
}
