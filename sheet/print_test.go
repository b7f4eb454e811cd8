package sheet_test

import (
	"fmt"
	"math"
	"strings"
	"testing"

	"colophon/api"
	"colophon/sheet"
)

// P19.2: what is written.

func TestRulesAreWritten(t *testing.T) {
	writes(t, "")
	writes(t, "* { }\n", rule(parts(star())))
	writes(t, "p { }\n", rule(parts(named("p"))))
	writes(t, "p.a > b, #x { size: 12pt; keep: yes }\n", api.Rule{
		Selectors: some(parts(named("p", "a"), child(named("b"))), parts(id("x", star()))),
		Decls:     []api.Decl{decl(1, 786432), decl(7, 1)},
	})
	writes(t, "p { }\nq { }\n", rule(parts(named("p"))), rule(parts(named("q"))))
	writes(t, "q { }\np { }\np { }\n", rule(parts(named("q"))), rule(parts(named("p"))), rule(parts(named("p"))))
	writes(t, "a, b, c d { }\n", rule(parts(named("a")), parts(named("b")), parts(named("c"), named("d"))))
	writes(t, "* * > * { }\n", rule(parts(star(), star(), child(star()))))
	writes(t, "* { font: 9 }\n", declares(decl(0, 9)))
	writes(t, "* { font: 9; font: 0; font: 9 }\n", declares(decl(0, 9), decl(0, 0), decl(0, 9)))
	writes(t, "* { hyphens: yes; keep: no; below: 0pt; above: 1pt; indent: 2pt; align: center; leading: 3pt; size: 4pt; font: 5 }\n",
		declares(decl(8, 1), decl(7, 0), decl(6, 0), decl(5, 65536), decl(4, 2*65536), decl(3, 3), decl(2, 3*65536), decl(1, 4*65536), decl(0, 5)))
}

func TestPartsAreWritten(t *testing.T) {
	for want, p := range map[string]api.Part{
		"p": named("p"), "*": star(), ".a": class("a"), "p.a": named("p", "a"), ".a.b": class("a", "b"), ".b.a": class("b", "a"), "p.a.b.a": named("p", "a", "b", "a"),
		"#i": id("i", star()), "p#i": id("i", named("p")), ".a#i": id("i", class("a")), "p.a.b#i": id("i", named("p", "a", "b")), "a-1.b-2#c-3": id("c-3", named("a-1", "b-2")),
		"abcdefghijklmnop.abcdefghijklmno1#z---------------": id("z---------------", named("abcdefghijklmnop", "abcdefghijklmno1")),
	} {
		writes(t, want+" { }\n", rule(parts(p)))
		writes(t, want+" "+want+" > "+want+" q { }\n", rule(parts(p, p, child(p), named("q"))))
		writes(t, "a, "+want+", b > "+want+" { }\n", rule(parts(named("a")), parts(p), parts(named("b"), child(p))))
		empty := p
		empty.Classes = append([]string{}, p.Classes...)
		writes(t, want+" { }\n", rule(parts(empty)))
	}
	none, empty := api.Rule{Selectors: some(parts(star()))}, api.Rule{Selectors: some(parts(api.Part{Classes: []string{}})), Decls: []api.Decl{}}
	writes(t, "* { }\n* { }\n", none, empty)
	if s, err := sheet.Print([]api.Rule{}); s != "" || err != api.OK {
		t.Errorf("an empty list: %q, %v", s, err)
	}
}

func TestValuesAreWritten(t *testing.T) {
	for prop, may := range mayBe() {
		for x, w := range strings.Fields(may.words) {
			writes(t, "* { "+may.name+": "+w+" }\n", declares(decl(prop, x)))
		}
		if may.from == "" {
			continue
		}
		for text, x := range map[string]int{
			"1": 65536, "1.0000152587890625": 65537, "1.5": 98304, "12": 786432, "10.949996948242187": 0, "999.9999847412109375": 65535999, "1000": 65536000, "9.5": 622592, "100.25": 6569984, "1.25": 81920,
			"10.9499969482421875": 717619, "1.9999847412109375": 131071,
		} {
			if x > 0 {
				writes(t, "* { "+may.name+": "+text+"pt }\n", declares(decl(prop, x)))
			}
		}
		for text, x := range map[string]int{"0": 0, "0.0000152587890625": 1, "0.5": 32768, "0.9999847412109375": 65535} {
			if prop >= 4 {
				writes(t, "* { "+may.name+": "+text+"pt }\n", declares(decl(prop, x)))
			} else {
				none(t, "less than a point", declares(decl(prop, x)))
			}
		}
	}
}

// Rules that are not good.

// amongOthers asks that a rule is not good, alone and beside good ones.
func amongOthers(t *testing.T, what string, r api.Rule) {
	t.Helper()
	good := rule(parts(named("p")))
	none(t, what, r)
	none(t, what+", ahead of others", r, good, good)
	none(t, what+", behind another", good, r)
	none(t, what+", the last of 256", append(times(255, good), r)...)
}

func TestHowManyAreWritten(t *testing.T) {
	for _, n := range []int{1, 2, 15, 16, 17, 18, 100, 5000} {
		rules := map[string]api.Rule{
			"selectors":                   rule(times(n, parts(named("p")))...),
			"parts":                       rule(parts(times(n, named("p"))...)),
			"children":                    rule(parts(append([]api.Part{star()}, times(n-1, child(star()))...)...)),
			"classes":                     rule(parts(named("p", times(n, "c")...))),
			"declarations":                declares(times(n, decl(0, 1))...),
			"parts of the last selector":  rule(parts(named("p")), parts(times(n, named("p"))...)),
			"classes of the last part":    rule(parts(named("p"), child(class(times(n, "c")...)))),
			"declarations of each length": declares(times(n, decl(6, 0))...),
		}
		for what, r := range rules {
			if n <= 16 {
				writes(t, modelWrite([]api.Rule{r}), r)
				writes(t, modelWrite([]api.Rule{r, r}), r, r)
			} else {
				amongOthers(t, fmt.Sprint(n, " ", what), r)
			}
		}
	}
	for n, asked := range map[int]api.Errno{255: api.OK, 256: api.OK, 257: api.ErrSheet, 258: api.ErrSheet, 100000: api.ErrSheet} {
		l := times(n, rule(parts(named("p"))))
		if s, err := sheet.Print(l); err != asked || asked == api.OK && s != strings.Repeat("p { }\n", n) || asked != api.OK && s != "" {
			t.Errorf("%d rules: %s, %v", n, tell(s), err)
		}
		if s, err := sheet.Print(make([]api.Rule, n)); s != "" || err != api.ErrSheet {
			t.Errorf("%d empty rules: %s, %v", n, tell(s), err)
		}
	}
}

func TestTooFewAreNotWritten(t *testing.T) {
	amongOthers(t, "nothing at all", api.Rule{})
	amongOthers(t, "no selector", api.Rule{Selectors: []api.Selector{}})
	amongOthers(t, "no selector, but a declaration", api.Rule{Decls: []api.Decl{decl(0, 1)}})
	amongOthers(t, "no part", rule(parts()))
	amongOthers(t, "an empty list of parts", rule(api.Selector{Parts: []api.Part{}}))
	amongOthers(t, "no part in the second selector", rule(parts(named("p")), parts()))
	amongOthers(t, "no part in the first selector", rule(parts(), parts(named("p"))))
}

// notNames are texts that are no names, and not empty.
func notNames() []string {
	return []string{" ", "*", "P", "pA", "Pa", "1", "-", "1a", "-a", "a b", " a", "a ", "a\n", "a.b", "a#b", ".a", "#a", "a>b", "a,b", "a{", "a{}", "{", "a_", "_a", "a:b", "a;", "\x00", "a\x00", "\xff", "a\xff", "\u00e9", "a\u00e9", "abcdefghijklmnopq", strings.Repeat("a", 17), strings.Repeat("a", 100000), "a*", "> a", "a, b", "a\u00a0", "\u0131", "\uff41", "a/", "a`", "z{", "a@", "a[", "0", "9z"}
}

func TestNamesThatAreNone(t *testing.T) {
	for _, name := range notNames() {
		what := "no name: " + tell(name)
		amongOthers(t, what, rule(parts(named(name))))
		amongOthers(t, what, rule(parts(named(name, "a"))))
		amongOthers(t, what, rule(parts(id(name, star()))))
		amongOthers(t, what, rule(parts(id(name, named("p", "a")))))
		amongOthers(t, what, rule(parts(class(name))))
		amongOthers(t, what, rule(parts(named("p", "a", name))))
		amongOthers(t, what, rule(parts(named("p", name, "a"))))
		amongOthers(t, what, rule(parts(named("p")), parts(named("q"), child(named(name)))))
	}
	amongOthers(t, "an empty class", rule(parts(class(""))))
	amongOthers(t, "an empty class", rule(parts(named("p", ""))))
	amongOthers(t, "an empty class", rule(parts(named("p", "a", ""))))
	amongOthers(t, "an empty class", rule(parts(id("i", class("", "a")))))
	for b := range 256 {
		c := string([]byte{byte(b)})
		prints(t, "a name of a byte", []api.Rule{rule(parts(named(c)))})
		prints(t, "an id of a byte", []api.Rule{rule(parts(id(c, star())))})
		prints(t, "a class of a byte", []api.Rule{rule(parts(class(c)))})
		prints(t, "a name that ends so", []api.Rule{rule(parts(named("a" + c)))})
		prints(t, "an id that ends so", []api.Rule{rule(parts(id("a"+c, star())))})
		prints(t, "a class that ends so", []api.Rule{rule(parts(class("a" + c)))})
	}
}

func TestAFirstPartIsNoChild(t *testing.T) {
	for _, p := range []api.Part{star(), named("p"), class("a"), id("i", star())} {
		amongOthers(t, "a child", rule(parts(child(p))))
		amongOthers(t, "a child ahead of others", rule(parts(child(p), p)))
		amongOthers(t, "a child ahead of a child", rule(parts(child(p), child(p))))
		amongOthers(t, "a child in the second selector", rule(parts(p), parts(child(p), p)))
		writes(t, modelWrite([]api.Rule{rule(parts(p, child(p)))}), rule(parts(p, child(p))))
	}
}

func TestPropsAndValuesThatMayNotBe(t *testing.T) {
	for _, prop := range []int{-1, -2, -9, 9, 10, 16, 255, 256, math.MaxInt, math.MinInt, math.MaxInt - 8, 1 << 32, -1 << 32} {
		for _, x := range []int{0, 1, 65536, -1, math.MaxInt} {
			amongOthers(t, "no property", declares(decl(prop, x)))
			amongOthers(t, "no property", declares(decl(0, 1), decl(prop, x)))
		}
	}
	ends := [9][2]int{{0, 9}, {65536, 65536000}, {65536, 65536000}, {0, 3}, {0, 65536000}, {0, 65536000}, {0, 65536000}, {0, 1}, {0, 1}}
	for prop, end := range ends {
		for _, x := range []int{end[0], end[0] + 1, end[1] - 1, end[1]} {
			writes(t, "* { "+modelWriteDecl(decl(prop, x))+" }\n", declares(decl(prop, x)))
		}
		for _, x := range []int{end[0] - 1, end[1] + 1, -1, -2, -65536, -65536000, 65536001, 1 << 30, 1 << 40, 1<<40 + 1, -1 << 40, 1 << 32, 1<<32 + 1, 1 << 48, math.MaxInt, math.MaxInt - 1, math.MinInt, math.MinInt + 1, -math.MaxInt} {
			amongOthers(t, "no value", declares(decl(prop, x)))
			amongOthers(t, "no value", declares(decl(prop, end[0]), decl(prop, x)))
			amongOthers(t, "no value", declares(decl(prop, x), decl(prop, end[1])))
		}
		for x := -300; x <= 300; x++ {
			prints(t, "near 0", []api.Rule{declares(decl(prop, x))})
			prints(t, "near a point", []api.Rule{declares(decl(prop, 65536+x))})
			prints(t, "near 1000 points", []api.Rule{declares(decl(prop, 65536000+x))})
		}
	}
}

// Texts that are too long.

// longPart is as long as a part may be but for its id.
func longPart() api.Part { return named("abcdefghijklmnop", times(16, "abcdefghijklmnop")...) }

// longSelector is one of so many of them.
func longSelector(n int) api.Selector { return parts(times(n, longPart())...) }

func lengthOf(l ...api.Rule) int { return len(modelWrite(l)) }

// upTo are rules whose text has just so many bytes.
func upTo(bytes int) []api.Rule {
	var l []api.Rule
	full := rule(times(16, longSelector(16))...)
	short := rule(parts(named("abcdefghijklmnop")))
	left, most := bytes, lengthOf(full)
	for left > most {
		l = append(l, full)
		left -= most
	}
	for n := 16; n > 0; n-- {
		for _, r := range []api.Rule{rule(times(n, longSelector(16))...), rule(longSelector(n))} {
			if lengthOf(r)+lengthOf(short)+5 <= left {
				l = append(l, r)
				left -= lengthOf(r)
			}
		}
	}
	for left > lengthOf(short)+5 {
		l = append(l, short)
		left -= lengthOf(short)
	}
	if left > lengthOf(short) {
		l = append(l, rule(parts(named("a"))))
		left -= len("a { }\n")
	}
	return append(l, rule(parts(named(strings.Repeat("z", left-len(" { }\n"))))))
}

func TestHowLongWhatIsWrittenMayBe(t *testing.T) {
	const most = 1 << 20
	for _, n := range []int{most - 1, most, most + 1, most + 2} {
		l := upTo(n)
		if got := len(modelWrite(l)); got != n || len(l) > 255 {
			t.Fatalf("%d rules of %d bytes, not %d", len(l), got, n)
		}
		s, err := sheet.Print(l)
		if n <= most {
			if len(s) != n || s != modelWrite(l) || err != api.OK {
				t.Errorf("%d bytes: %d of them, %v", n, len(s), err)
			}
			shows(t, s, l...)
		} else {
			unwritten(t, fmt.Sprint(n, " bytes"), api.ErrLong, l...)
		}
		// What is not good comes ahead, wherever it stands.
		bad := []api.Rule{{}, rule(parts()), rule(parts(named("P"))), rule(parts(class(""))), rule(parts(child(star()))), declares(decl(9, 0)), declares(decl(0, 10)), declares(decl(1, 0))}
		for _, r := range bad {
			for _, l := range [][]api.Rule{append(append([]api.Rule{}, l...), r), append([]api.Rule{r}, l...)} {
				if s, err := sheet.Print(l); s != "" || err != api.ErrSheet {
					t.Errorf("%d bytes, and %s: %s, %v", n, tell(r), tell(s), err)
				}
			}
		}
	}
	full := rule(times(16, longSelector(16))...)
	length := lengthOf(full)
	for _, n := range []int{0, 1, 2, 13, 14, 15, 16, 100, 255, 256} {
		asked := api.OK
		if n*length > most {
			asked = api.ErrLong
		}
		if s, err := sheet.Print(times(n, full)); err != asked || asked == api.OK && len(s) != n*length || asked != api.OK && s != "" {
			t.Errorf("%d rules: %s, %v", n, tell(s), err)
		}
	}
	if s, err := sheet.Print(times(257, full)); s != "" || err != api.ErrSheet {
		t.Errorf("257 rules: %s, %v", tell(s), err)
	}
}

// What is longer in the list than in the text: the same memory many times.
func TestListsOfAnySize(t *testing.T) {
	p := named("p", times(1<<16, "c")...)
	x := parts(times(1<<12, p)...)
	r := rule(times(1<<12, x)...)
	for i, l := range [][]api.Rule{times(1000, r), {r}, {rule(x)}, {rule(parts(p))}, {rule(parts(named(strings.Repeat("a", 1<<20))))}, {declares(times(1<<20, decl(0, 1))...)}} {
		if s, err := sheet.Print(l); s != "" || err != api.ErrSheet {
			t.Errorf("list %d: %s, %v", i, tell(s), err)
		}
	}
}
