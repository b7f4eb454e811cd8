package sheet_test

import (
	"fmt"
	"math"
	"strings"
	"testing"

	"colophon/api"
	"colophon/sheet"
)

func TestTheChaptersExamples(t *testing.T) {
	shows(t, "p.a > b, #x { size: 12pt; keep: yes }", api.Rule{
		Selectors: some(parts(named("p", "a"), child(named("b"))), parts(id("x", star()))),
		Decls:     []api.Decl{{Prop: 1, Value: 786432}, {Prop: 7, Value: 1}},
	})
	shows(t, "")
	for _, s := range []string{"p { size: 0pt }", "p { colour: 1 }", "{ }", "p > { }", "p { size 1pt }"} {
		refused(t, "an example", s, 0)
	}
	refused(t, "an example", " p{}  q", 6)
	weighs(t, parts(named("p", "a"), child(named("b"))), [3]int{0, 1, 2})
	path := []api.Facts{{Name: "doc"}, {Name: "p"}, {Name: "b"}}
	matches(t, parts(named("doc"), named("b")), path, true)
	matches(t, parts(named("doc"), child(named("b"))), path, false)
}

// P19.1: what stands between rules.

func TestBlanksAlone(t *testing.T) {
	for _, s := range []string{"", " ", "\n", "\r", "\t", "\t\n\r ", strings.Repeat(" \n", 1000)} {
		shows(t, s)
		shows(t, s+"p{}"+s, rule(parts(named("p"))))
		shows(t, s+"p{}"+s+"q{}"+s, rule(parts(named("p"))), rule(parts(named("q"))))
	}
}

// others are bytes that look like blanks, or are just beside them, and are none.
func others() []string {
	return []string{"\x00", "\x08", "\x0b", "\x0c", "\x0e", "\x1f", "\x7f", "\x80", "\x85", "\xa0", "\xff", "\u0085", "\u00a0", "\u2003", "\u2028", "\u3000", "\ufeff", "/**/"}
}

func TestOtherBytesAreNoBlanks(t *testing.T) {
	for _, s := range others() {
		refused(t, "alone", s, 0)
		refused(t, "behind a blank", " "+s, 1)
		refused(t, "ahead of a rule", s+"p{}", 0)
		refused(t, "behind a rule", "p{}"+s, 3)
		refused(t, "behind a rule and a blank", "p{} "+s+" ", 4)
		refused(t, "between rules", "p{}"+s+"q{}", 3)
	}
}

// Each byte that is no blank is the place of what is wrong, where a rule is asked.
func TestEachByteAsBlank(t *testing.T) {
	for b := range 256 {
		s := string([]byte{byte(b)})
		if strings.Contains(blankBytes, s) {
			shows(t, s)
			shows(t, "p"+s+"{"+s+"}"+s, rule(parts(named("p"))))
			continue
		}
		refused(t, "alone", s, 0)
		refused(t, "behind a rule", "p{} "+s, 4)
		refused(t, "among declarations", "p{keep:no;"+strings.Trim(s, "}")+";}", 0)
	}
}

// gap is what may stand between two pieces of a rule, beside nothing.
type gap int

const (
	free   gap = iota // blanks or none
	never             // no blanks: they are wrong
	parted            // blanks, and none would be wrong
)

// pieces are those of one rule, each with what may stand behind it.
func pieces() []struct {
	text   string
	behind gap
} {
	return []struct {
		text   string
		behind gap
	}{
		{"", free}, {"pa", never}, {"ra", never}, {".", never}, {"cl", never}, {"ass", never}, {"#", never}, {"i", never}, {"d", free},
		{">", free}, {"q", parted}, {"r", free}, {",", free}, {"*", never}, {".", never}, {"c", free}, {",", free}, {"#", never}, {"e", parted}, {".", never}, {"f", free},
		{"{", free}, {"si", never}, {"ze", free}, {":", free}, {"1", never}, {"2", never}, {".", never}, {"5", never}, {"p", never}, {"t", free}, {";", free},
		{"ke", never}, {"ep", free}, {":", free}, {"y", never}, {"es", free}, {";", free}, {"font", free}, {":", free}, {"7", free}, {";", free}, {"}", free},
	}
}

func ruleOfPieces() api.Rule {
	return api.Rule{
		Selectors: some(parts(id("id", named("para", "class")), child(named("q")), named("r")), parts(class("c")), parts(id("e", star()), class("f"))),
		Decls:     []api.Decl{{Prop: 1, Value: 25 * api.One / 2}, {Prop: 7, Value: 1}, {Prop: 0, Value: 7}},
	}
}

// written is that rule, with other things behind one of its pieces.
func written(at int, with string) string {
	var s strings.Builder
	for i, p := range pieces() {
		s.WriteString(p.text)
		if i == at {
			s.WriteString(with)
		} else if p.behind == parted {
			s.WriteString(" ")
		}
	}
	return s.String()
}

func TestBlanksWithinARule(t *testing.T) {
	for i, p := range pieces() {
		for _, blanks := range []string{" ", "\t", "\n", "\r", "\r\n", "\t \n\r", strings.Repeat(" ", 300)} {
			s := written(i, blanks)
			what := fmt.Sprintf("%q behind piece %d", blanks, i)
			switch {
			case p.behind != never:
				shows(t, s, ruleOfPieces())
			case p.text == "pa" || p.text == "cl" || p.text == "ass" || p.text == "i" || p.text == "*" || s == written(i-1, blanks):
				// Names cut in two are two parts, and what stands behind a part is another.
				if as(t, what, s) == api.OK {
					got, _, _ := sheet.Parse(s)
					if modelSame(got, []api.Rule{ruleOfPieces()}) {
						t.Errorf("%s changes nothing", what)
					}
				}
			default:
				if as(t, what, s) == api.OK && strings.ContainsAny(p.text, "0123456789.:#") {
					t.Errorf("%s is taken", what)
				}
			}
		}
		// Nothing behind it.
		if s := written(i, ""); p.behind == parted {
			as(t, "two in one", s)
		} else {
			shows(t, s, ruleOfPieces())
		}
		for _, other := range others() {
			refused(t, fmt.Sprintf("%q behind piece %d", other, i), " p{}"+written(i, other), map[bool]int{true: len(" p{}" + written(-1, "")), false: 4}[i == len(pieces())-1])
		}
	}
}

// All blanks that may be, at once; and none.
func TestBlanksEverywhere(t *testing.T) {
	for _, blanks := range []string{"", " ", "\r\n\t "} {
		s := ""
		for _, p := range pieces() {
			s += p.text
			if p.behind == parted {
				s += " "
			}
			if p.behind == free {
				s += blanks
			}
		}
		shows(t, s, ruleOfPieces())
		shows(t, s+s, ruleOfPieces(), ruleOfPieces())
	}
}

func TestBlanksThatMayNotBe(t *testing.T) {
	for _, blank := range []string{" ", "\t", "\n", "\r", "  "} {
		for _, s := range []string{"p.%a{}", "p#%a{}", ".%a{}", "#%a{}", "*.%a{}", "p{si%ze:1pt}", "p{s%ize:1pt}", "p{size:1%pt}", "p{size:1p%t}", "p{size:1%2pt}", "p{size:1%.5pt}", "p{size:1.%5pt}", "p{indent:-%0pt}", "p{keep:y%es}", "p{keep:n%o}", "p{align:le%ft}", "p{font:%}", "p{size:%pt}", "p{%:1pt}", "%{}"} {
			refused(t, "a blank that may not be", strings.ReplaceAll(s, "%", blank), map[bool]int{true: len(blank)}[s[0] == '%'])
		}
		// Where it parts two, they are two.
		shows(t, "p"+blank+".a{}", rule(parts(named("p"), class("a"))))
		shows(t, "p"+blank+"#a{}", rule(parts(named("p"), id("a", star()))))
		shows(t, "*"+blank+".a{}", rule(parts(star(), class("a"))))
		shows(t, ".a"+blank+".b{}", rule(parts(class("a"), class("b"))))
		shows(t, "#a"+blank+"#b{}", rule(parts(id("a", star()), id("b", star()))))
		shows(t, "a"+blank+"b{}", rule(parts(named("a"), named("b"))))
		shows(t, "*"+blank+"*{}", rule(parts(star(), star())))
		shows(t, "*"+blank+"p{}", rule(parts(star(), named("p"))))
	}
}

// Parts.

func TestParts(t *testing.T) {
	for s, want := range map[string]api.Part{
		"p": named("p"), "*": star(), "h1": named("h1"), "p-": named("p-"), "p-1-": named("p-1-"), "p1": named("p1"), "no-such": named("no-such"),
		".a": class("a"), "*.a": class("a"), "p.a": named("p", "a"), ".a.b": class("a", "b"), "*.a.b": class("a", "b"), "p.a.b": named("p", "a", "b"), "p.b.a": named("p", "b", "a"),
		"#i": id("i", star()), "*#i": id("i", star()), "p#i": id("i", named("p")),
		"#i.a": id("i", class("a")), ".a#i": id("i", class("a")), "*#i.a": id("i", class("a")), "*.a#i": id("i", class("a")),
		"p.a#i": id("i", named("p", "a")), "p#i.a": id("i", named("p", "a")),
		"p.a.b#i": id("i", named("p", "a", "b")), "p.a#i.b": id("i", named("p", "a", "b")), "p#i.a.b": id("i", named("p", "a", "b")), ".a#i.b": id("i", class("a", "b")), "#i.b.a": id("i", class("b", "a")),
		".a.a": class("a", "a"), "p.a.b.a": named("p", "a", "b", "a"), "p.a#a.a": id("a", named("p", "a", "a")), "p.p#p": id("p", named("p", "p")),
		"a-b.c-d#e-f": id("e-f", named("a-b", "c-d")), "size": named("size"), "#keep.yes": id("keep", class("yes")),
	} {
		shows(t, s+"{}", rule(parts(want)))
		shows(t, "a "+s+" > b , "+s+"{}", rule(parts(named("a"), want, child(named("b"))), parts(want)))
		shows(t, s+">"+s+"{}", rule(parts(want, child(want))))
	}
}

func TestPartsThatAreNone(t *testing.T) {
	for _, s := range []string{
		".", "#", "..", "##", ".#", "#.", "p.", "p#", "*.", "*#", "p..a", "p##a", "p.#a", "p#.a", ".a.", "#a#", ".a#", "#a.", "p.a.", "p.a#", "*..a", ".*", "#*", "p.*", "p#*",
		"**", "p*", "*p", "***", "*p.a", "p*.a", ".a*", "#a*", ".a*b", "*.a*", "*1", "*-", "1*", "*.1",
		"#a#b", "#a#a", "p#a#b", "p#a.b#c", "#a.b.c#d", "*#a#b",
		"1", "-", "1p", "-p", "9-a", ".1", ".-", ".1a", ".-a", "#1", "#-", "#1a", "#-a", "p.1a", "p#1a", "p#-",
		"P", "Pa", "pA", "pAb", "aB1", ".A", ".aB", "#A", "#aB", "p.A", "p#A", "pZ", "Zp", "p_a", "_a", "p:a", "p/a", "p@a", "p[a]", "p(a)", "p+a", "p~a", "p!", "p\"", "p'", "p\\a", "p=a", "p|a", "p&a", "p%", "p$", "p^", "p?", "p<", "p`", "\u00e9", "p\u00e9", "p\xff", ".\u00e9",
	} {
		refused(t, "a part that is none", s+"{}", 0)
		refused(t, "a part that is none", "q "+s+" {}", 0)
		refused(t, "a part that is none", "q>"+s+">r{}", 0)
		refused(t, "a part that is none", "q,"+s+",r{}", 0)
		refused(t, "a part that is none, behind another rule", "q{}\n"+s+" p{}", 4)
	}
}

func TestNamesLengths(t *testing.T) {
	for n := 1; n <= 40; n++ {
		for _, name := range []string{strings.Repeat("a", n), "z" + strings.Repeat("9", n-1), "m" + strings.Repeat("-", n-1)} {
			if n <= 16 {
				shows(t, name+"{}", rule(parts(named(name))))
				shows(t, "."+name+"#"+name+"{}", rule(parts(id(name, class(name)))))
				continue
			}
			for _, ahead := range []string{"", ".", "#", "p.", "p#", "*.", "q ", "q>", "q,", ".a", "#a"} {
				refused(t, "a name that is too long", ahead+name+"{}", 0)
			}
		}
	}
	refused(t, "a name that is very long", strings.Repeat("a", 1<<20-2)+"{}", 0)
}

// Each byte within a name, and at its beginning.
func TestEachByteOfAName(t *testing.T) {
	for b := range 256 {
		c := string([]byte{byte(b)})
		letter, more := c >= "a" && c <= "z", c >= "0" && c <= "9" || c == "-"
		for _, ahead := range []string{"", ".", "#", "p.a#", "q ", "q>", "q, "} {
			switch {
			case letter || more && ahead == "":
				as(t, "a byte ahead of a name", ahead+c+"{}")
			case more:
				refused(t, "a byte ahead of a name", ahead+c+"{}", 0)
			}
			if letter || more {
				if as(t, "a byte in a name", ahead+"a"+c+"{}") != api.OK {
					t.Errorf("%q is not taken within a name", c)
				}
				continue
			}
			as(t, "a byte in a name", ahead+"a"+c+"b{}")
			if !strings.Contains(blankBytes+".#>,{", c) {
				refused(t, "a byte in a name", ahead+"a"+c+"b{}", 0)
			}
		}
	}
}

// Selectors, and what stands between their parts.

func TestChildren(t *testing.T) {
	for _, s := range []string{"a>b", "a >b", "a> b", "a > b", "a\n>\tb", "  a  >  b  "} {
		shows(t, s+"{}", rule(parts(named("a"), child(named("b")))))
	}
	shows(t, "a>b>c{}", rule(parts(named("a"), child(named("b")), child(named("c")))))
	shows(t, "a b>c{}", rule(parts(named("a"), named("b"), child(named("c")))))
	shows(t, "a>b c{}", rule(parts(named("a"), child(named("b")), named("c"))))
	shows(t, "*>*{}", rule(parts(star(), child(star()))))
	shows(t, ".a>#b{}", rule(parts(class("a"), child(id("b", star())))))
	shows(t, "a>b,c,d>e{}", rule(parts(named("a"), child(named("b"))), parts(named("c")), parts(named("d"), child(named("e")))))
	for _, s := range []string{">", ">>", "> a", ">a", ">a>b", "a>", "a >", "a > ", "a>b>", "a>>b", "a> >b", "a > > b", "a>b>>c", "a,>b", "a, > b", "a>,b", "a >, b", "a>.", "a>#", "a<b", "a=>b", ">*", "*>", "> > a"} {
		refused(t, "> where it may not stand", s+"{}", 0)
		refused(t, "> where it may not stand", s+" {}", 0)
	}
}

func TestCommas(t *testing.T) {
	for _, s := range []string{"a,b,c", "a, b, c", "a ,b ,c", " a , b , c ", "a\n,\tb,\r\nc"} {
		shows(t, s+"{}", rule(parts(named("a")), parts(named("b")), parts(named("c"))))
	}
	shows(t, "a,a{}", rule(parts(named("a")), parts(named("a"))))
	shows(t, "a b,c d{}", rule(parts(named("a"), named("b")), parts(named("c"), named("d"))))
	for _, s := range []string{",", ",,", ", ,", ",a", "a,", "a, ", ",a,", "a,,b", "a, ,b", "a,b,", "a b,,", "a;b", "a,;b"} {
		refused(t, "commas without selectors", s+"{}", 0)
		refused(t, "commas without selectors", " "+s+" {}", len(" "+s)-len(strings.TrimLeft(" "+s, blankBytes)))
	}
}

func TestWithoutSelectors(t *testing.T) {
	for _, s := range []string{"{}", "{ }", "{size:1pt}", "{", "}", "{}}", ";", ":", "}{", "p{}{}", "p{} {}", "p{}}", "p{}{", "p{};", "p{},", "p{}>", "p{}."} {
		at := 0
		if strings.HasPrefix(s, "p") {
			at = 3 + strings.Count(s[3:], " ")
		}
		refused(t, "no selector", s, at)
	}
}

// Declarations.

func TestSemicolons(t *testing.T) {
	p := func(l ...api.Decl) api.Rule { return api.Rule{Selectors: some(parts(named("p"))), Decls: l} }
	yes, no := decl(7, 1), decl(7, 0)
	for s, want := range map[string]api.Rule{
		"": p(), " ": p(), "\n\t\r ": p(),
		"keep:yes": p(yes), "keep:yes;": p(yes), "keep:yes ;": p(yes), "keep:yes; ": p(yes), " keep : yes ; ": p(yes),
		"keep:yes;keep:no": p(yes, no), "keep:yes;keep:no;": p(yes, no), "keep:yes ; keep:no ; ": p(yes, no), "keep:yes\n;\nkeep:yes\n": p(yes, yes),
	} {
		shows(t, "p{"+s+"}", want)
		shows(t, "p{"+s+"}p{"+s+"}", want, want)
	}
	for _, s := range []string{";", " ; ", ";;", ";keep:yes", "; keep:yes", "keep:yes;;", "keep:yes; ;", "keep:yes;;keep:no", "keep:yes; ;keep:no", "keep:yes;keep:no;;", "keep:yes keep:no", "keep:yes,keep:no", "keep:yes:keep:no", "keep:yes{", "{", "{}", "keep", "keep:", "keep:;", "keep;", "keep yes", "keep yes;", "keep::yes", "keep: :yes", ":yes", ":", ": yes", "keep=yes", "keep:yes no", "keep:yes no;", "keep;:yes", "keep:yes.", "keep:yes,", "keep.:yes", "keep:\"yes\"", "keep:'yes'", "-keep:yes", "keep-:yes", "keep:yes/", "keep:yes!", "*", "keep:*"} {
		refused(t, "declarations that are none", "p{"+s+"}", 0)
		refused(t, "declarations that are none", "p { "+s+" }", 0)
		refused(t, "declarations that are none, in a second rule", "p{} p{"+s+"}", 4)
	}
}

func TestProperties(t *testing.T) {
	for prop, may := range mayBe() {
		values := map[string]int{}
		for x, w := range strings.Fields(may.words) {
			values[w] = x
		}
		if may.from != "" {
			values = map[string]int{"1pt": 65536, "12pt": 786432, "1.5pt": 98304, "1000pt": 65536000, "0.1e1pt": -1, "+1pt": -1, "1": -1, "1p": -1, "pt": -1, "1PT": -1, "1Pt": -1, "1px": -1, "1mm": -1, "1ptpt": -1, "1pt1": -1, "ptt": -1}
		}
		for text, x := range values {
			s := "*{" + may.name + ":" + text + "}"
			if x < 0 {
				refused(t, "no value of a property", s, 0)
				continue
			}
			shows(t, s, declares(decl(prop, x)))
			shows(t, "* { "+may.name+" : "+text+" ; }", declares(decl(prop, x)))
		}
		for _, text := range []string{"", "0", "1", "4", "9", "10", "00", "01", "-1", "+1", "1.0", "justify", "left", "right", "center", "no", "yes", "true", "false", "none", "No", "NO", "Yes", "YES", "Left", "LEFT", "Justify", "Center", "CENTER", "centre", "top", "lef", "leftt", "left,right", "y", "n", "yess", "noo", "yes-", "0pt", "1pt", "1000pt", "1001pt", "-1pt", "\u0661", "\uff11", "one", "inherit"} {
			d, well := modelDecl(may.name + ":" + text)
			if text == "" || !well {
				refused(t, "no value of a property", "*{"+may.name+":"+text+"}", 0)
				refused(t, "no value of a property", "*{"+may.name+":"+text+";}", 0)
				continue
			}
			shows(t, "*{"+may.name+":"+text+"}", declares(d))
		}
		value := modelWriteDecl(decl(prop, max(1, 65536*len(may.from))))[len(may.name)+2:]
		shows(t, "*{"+may.name+":"+value+"}", declares(decl(prop, max(1, 65536*len(may.from)))))
		for _, name := range []string{strings.ToUpper(may.name), strings.ToUpper(may.name[:1]) + may.name[1:], may.name[1:], may.name[:len(may.name)-1], may.name + "s", may.name + "-", "-" + may.name, may.name + may.name, may.name + "\x00", may.name[:2] + " " + may.name[2:]} {
			refused(t, "a property that there is not", "*{"+name+":"+value+"}", 0)
		}
	}
}

func TestPropertiesThatThereAreNot(t *testing.T) {
	for _, name := range []string{"", "colour", "color", "margin", "width", "fonts", "font-size", "line", "left", "yes", "no", "p", "1", "0", "*", ".size", "#size", "name", "id", "class", "child", "prop", "value", "text-align", "hyphen"} {
		for _, value := range []string{"1", "1pt", "yes", "left", ""} {
			refused(t, "a property that there is not", "*{"+name+":"+value+"}", 0)
			refused(t, "a property that there is not", "*{size:1pt;"+name+":"+value+";}", 0)
		}
	}
}

// The same property may stand there twice, also with the same value.
func TestTheSamePropertyTwice(t *testing.T) {
	shows(t, "*{size:1pt;size:2pt;size:1pt}", declares(decl(1, 65536), decl(1, 131072), decl(1, 65536)))
	shows(t, "*{keep:no;keep:no;hyphens:no;keep:yes}", declares(decl(7, 0), decl(7, 0), decl(8, 0), decl(7, 1)))
	shows(t, "*{font:1;font:1;font:0}", declares(decl(0, 1), decl(0, 1), decl(0, 0)))
}

func TestLengths(t *testing.T) {
	const half = "0.00000762939453125" // of a 65536th
	for text, x := range map[string]int{
		"1": 65536, "01": 65536, "1.0": 65536, "0001.000": 65536, "999": 999 * 65536, "1000": 65536000, "1000.0": 65536000, "01000.00": 65536000,
		"1.0000152587890625": 65537, "999.9999847412109375": 65535999,
		"0.1e0": -1, "12.5": 819200, "0012.50": 819200, "1.5": 98304, "10.95": 717619, "3.333333333333": 218453, "9.99999999999999999999": 655360,
		"0.99999999999": 65536, "0.99999237060546875": 65536, "0.99999237060546874": 65535, "0.9999847412109375": 65535, "0.999984741210937499999999999999999": 65535,
		"1.00000762939453125": 65537, "1.00000762939453124": 65536, "1.000000001": 65536,
		"1000.00000762939453124": 65536000, "1000.00000762939453125": 65536001, "1000.0000152587890625": 65536001, "1000.000001": 65536000, "1000.1": 65542554, "1001": 1001 * 65536, "10000": 655360000,
		"0": 0, "0.0": 0, "000.000": 0, "-0": 0, "-0.0": 0, "-000": 0, half: 1, "0.00000762939453124": 0, "-" + half: 0, "-0.00000762939453126": -1, "-0.000001": 0, "0.0000152587890625": 1, "0.5": 32768, "0.1": 6554,
		"-0.0000152587890625": -1, "-1": -65536, "-1000": -65536000, "-0.1": -6554,
		"16777216": 1 << 40, "16777216.1": -1, "99999999999999999999": -1, "9223372036854775807": -1, "18446744073709551616": -1, "18446744073709551617": -1, "-99999999999999999999999999999999999": -1, "281474976710657": -1,
		"": -1, ".": -1, "1.": -1, ".5": -1, "-": -1, "--1": -1, "-.5": -1, "+1": -1, "1e5": -1, "1e1": -1, "1,5": -1, "0x10": -1, "1_0": -1, "1.5.5": -1, "1-1": -1, "1/2": -1, "inf": -1, "nan": -1, "\u0661": -1,
		strings.Repeat("0", 39) + "1":       65536,
		strings.Repeat("0", 40) + "1":       -1,
		"1." + strings.Repeat("0", 38):      65536,
		"1." + strings.Repeat("0", 39):      -1,
		"-" + strings.Repeat("0", 39):       0,
		"-" + strings.Repeat("0", 40):       -1,
		"0." + strings.Repeat("9", 38):      65536,
		"0." + strings.Repeat("9", 39):      -1,
		"1000." + strings.Repeat("0", 35):   65536000,
		"1000." + strings.Repeat("0", 36):   -1,
		strings.Repeat("1", 1000):           -1,
		"12.5" + strings.Repeat("0", 10000): -1,
	} {
		for prop, may := range mayBe() {
			if may.from == "" {
				continue
			}
			least := map[string]int{"0": 0, "1": 65536}[may.from]
			s := "*{" + may.name + ":" + text + "pt}"
			if x >= least && x <= 65536000 {
				shows(t, s, declares(decl(prop, x)))
			} else {
				refused(t, "no length", s, 0)
			}
			refused(t, "a length without pt", "*{"+may.name+":"+text+"}", 0)
			refused(t, "a length with a blank", "*{"+may.name+":"+text+" pt}", 0)
			refused(t, "a length with more", "*{"+may.name+":"+text+"pts}", 0)
		}
	}
}

// Each length near an end, by its own text.
func TestLengthsNearTheEnds(t *testing.T) {
	for prop, may := range mayBe() {
		for _, end := range []int{0, 65536, 65536000} {
			for x := end - 40; x <= end+40 && may.from != ""; x++ {
				s := "*{" + may.name + ":" + modelPoints(x) + "pt}"
				if x <= 65536000 && (x >= 65536 || x >= 0 && prop >= 4) {
					shows(t, s, declares(decl(prop, x)))
				} else {
					refused(t, "just outside", s, 0)
				}
			}
		}
	}
}

func TestDigits(t *testing.T) {
	for i := range 256 {
		s := string([]byte{byte(i)})
		if s >= "0" && s <= "9" {
			shows(t, "*{font:"+s+"}", declares(decl(0, i-'0')))
		} else {
			refused(t, "no digit", "*{font:"+s+"}", 0)
		}
		if s != "}" {
			refused(t, "two digits", "*{font:1"+s+"1}", 0)
			refused(t, "two digits", "*{font:0"+s+"1}", 0)
		}
		refused(t, "nothing behind the :", "*{font:"+strings.Trim(s, "0123456789")+"}", 0)
	}
	for x := range 100 {
		if x >= 10 {
			refused(t, "two digits", fmt.Sprintf("*{font:%d}", x), 0)
		}
		refused(t, "two digits", fmt.Sprintf("*{font:%02d}", x), 0)
		refused(t, "below 0", fmt.Sprintf("*{font:-%d}", x), 0)
	}
	refused(t, "great", fmt.Sprintf("*{font:%d}", math.MaxInt), 0)
}

// How many there may be.

func TestHowMany(t *testing.T) {
	list := func(n int, one, between string) string { return strings.Join(times(n, one), between) }
	for n := 1; n <= 40; n++ {
		p := named("p")
		for s, want := range map[string]api.Rule{
			list(n, "p", ",") + "{}":                      rule(times(n, parts(p))...),
			list(n, "p", " , ") + " { }":                  rule(times(n, parts(p))...),
			list(n, "p", " ") + "{}":                      rule(parts(times(n, p)...)),
			list(n, "p", " ") + " {}":                     rule(parts(times(n, p)...)),
			list(n, "p", " ") + " ,q{}":                   rule(parts(times(n, p)...), parts(named("q"))),
			"q," + list(n, "p", " ") + "{}":               rule(parts(named("q")), parts(times(n, p)...)),
			list(n, "p", ">") + "{}":                      rule(parts(append([]api.Part{p}, times(n-1, child(p))...)...)),
			list(n, ".c", "") + "{}":                      rule(parts(class(times(n, "c")...))),
			"p" + list(n, ".c", "") + "#i{}":              rule(parts(id("i", named("p", times(n, "c")...)))),
			"*#i" + list(n, ".c", "") + "{}":              rule(parts(id("i", class(times(n, "c")...)))),
			"q " + list(n, ".c", "") + " q{}":             rule(parts(named("q"), class(times(n, "c")...), named("q"))),
			"*{" + list(n, "font:1", ";") + "}":           declares(times(n, decl(0, 1))...),
			"*{" + list(n, "font:1", ";") + ";}":          declares(times(n, decl(0, 1))...),
			"* { " + list(n, "size: 1pt", " ; ") + " ; }": declares(times(n, decl(1, 65536))...),
		} {
			if n <= 16 {
				shows(t, s, want)
				shows(t, s+s, want, want)
				continue
			}
			refused(t, fmt.Sprint(n, " of them"), s, 0)
			refused(t, fmt.Sprint(n, " of them, behind others"), "p{} "+s+"p{}", 4)
		}
	}
	// All of them at once.
	part := "p" + list(16, ".c", "") + "#i"
	full := list(16, list(16, part, ">"), ",") + "{" + list(16, "font:9", ";") + ";}"
	shows(t, full, api.Rule{
		Selectors: times(16, parts(append([]api.Part{id("i", named("p", times(16, "c")...))}, times(15, child(id("i", named("p", times(16, "c")...))))...)...)),
		Decls:     times(16, decl(0, 9)),
	})
	// Those of one selector, or part, don't count in the next.
	shows(t, list(16, "p", " ")+","+list(16, "p", " ")+"{}", rule(parts(times(16, named("p"))...), parts(times(16, named("p"))...)))
	shows(t, list(16, ".c", "")+" "+list(16, ".c", "")+"{}", rule(parts(class(times(16, "c")...), class(times(16, "c")...))))
}

func TestHowManyRules(t *testing.T) {
	for _, one := range []string{"p{}", "p { }\n", "\t*{font:1} "} {
		want := rule(parts(named("p")))
		if strings.Contains(one, "*") {
			want = declares(decl(0, 1))
		}
		for _, n := range []int{1, 2, 254, 255, 256} {
			shows(t, strings.Repeat(one, n), times(n, want)...)
			shows(t, strings.Repeat(one, n)+" \n", times(n, want)...)
		}
		many := strings.Repeat(one, 256)
		// The 257th is too many, be it right, wrong or only begun.
		for _, more := range []string{"p{}", "q { size: 1pt }", "p", "p{", "?", "}", "{", "{}", ",", "\x00", "\xa0", "\u00a0", "*", "p{size:0pt}", "p{}p{}", "p{}?", "."} {
			wrong(t, "257 rules", many+more, len(many), api.ErrLong)
			for _, blanks := range []string{" ", "\n\n", "\t\r\n "} {
				wrong(t, "257 rules", many+blanks+more, len(many+blanks), api.ErrLong)
			}
		}
		// One that is wrong among the 256 comes ahead.
		refused(t, "the last of 256", strings.Repeat(one, 255)+"?"+one, len(one)*255)
		refused(t, "the last of 256", strings.Repeat(one, 255)+" p{ p{} ", len(one)*255+1)
		refused(t, "the first of 257", "\n?"+many+one, 1)
	}
}

// What is cut off.

func TestTextsThatEnd(t *testing.T) {
	const s = "p.a#i > * q, .b.c , #j r\n{ font : 1 ; size: 12.5pt; align: left ; }"
	shows(t, s, api.Rule{
		Selectors: some(parts(id("i", named("p", "a")), child(star()), named("q")), parts(class("b", "c")), parts(id("j", star()), named("r"))),
		Decls:     []api.Decl{decl(0, 1), decl(1, 819200), decl(3, 1)},
	})
	for n := 1; n < len(s); n++ {
		refused(t, "cut off", s[:n], 0)
		refused(t, "cut off, behind blanks", "\n "+s[:n], 2)
		refused(t, "cut off, behind another", "p{}\t\n"+s[:n], 5)
		refused(t, "cut off, ahead of another", s[:n]+"\x00p{}", 0)
	}
}

func TestTheFirstThatIsWrong(t *testing.T) {
	good := "p { size: 1pt }"
	bad := []string{"?", "{}", "p{size:0pt}", "P{}", "p{", ">p{}", "p{;}", ".{}"}
	for _, a := range bad {
		for _, b := range append(bad, "p", "p,", "p>") {
			for _, blanks := range []string{"", " ", "\n\t", strings.Repeat("\r\n", 50)} {
				refused(t, "the first of two", blanks+a+" "+blanks+b, len(blanks))
				refused(t, "the first of two, behind a good one", good+blanks+a+" "+good+" "+b, len(good+blanks))
				refused(t, "the first of two, behind good ones", blanks+good+blanks+good+blanks+a+"\n"+b, 2*len(good)+3*len(blanks))
			}
		}
	}
}

// How long a sheet may be.

func TestHowLong(t *testing.T) {
	const most = 1 << 20
	for _, s := range []string{"", "p{}", "p { size: 1pt }", "?", "p", "p{", "p{}?"} {
		for _, fill := range []string{" ", "\n"} {
			full := s + strings.Repeat(fill, most-len(s))
			as(t, "as long as may be", full)
			if _, _, err := sheet.Parse(full); err == api.ErrLong {
				t.Errorf("%s with blanks up to %d bytes is too long", tell(s), most)
			}
			wrong(t, "one more", full+fill, 0, api.ErrLong)
			wrong(t, "one more, at its beginning", fill+full, 0, api.ErrLong)
			wrong(t, "many more", full+full, 0, api.ErrLong)
		}
	}
	blanks := strings.Repeat(" ", most)
	shows(t, blanks)
	shows(t, "p{"+blanks[:most-3]+"}", rule(parts(named("p"))))
	shows(t, blanks[:most-3]+"p{}", rule(parts(named("p"))))
	refused(t, "wrong at its end", blanks[:most-1]+"?", most-1)
	refused(t, "wrong at its end", blanks[:most-1]+"p", most-1)
	refused(t, "wrong at its beginning", "?"+blanks[:most-1], 0)
	wrong(t, "wrong, and too long", "?"+blanks, 0, api.ErrLong)
	many := strings.Repeat("p{}", 256)
	shows(t, many+blanks[:most-len(many)], times(256, rule(parts(named("p"))))...)
	wrong(t, "257, as long as may be", many+blanks[:most-len(many)-1]+"?", most-1, api.ErrLong)
	wrong(t, "257, and too long", many+blanks[:most-len(many)]+"?", 0, api.ErrLong)
	// What would take long if it were gone through again and again.
	for _, s := range []string{"p", "p ", "p,", ".a", "p>", "p{", "p{}", "a{keep:", "a{keep:y", "a{size:1", "#a ", "{", "}", "a{font:1;"} {
		as(t, "long", strings.Repeat(s, most/len(s)))
		as(t, "long", s+strings.Repeat(s[len(s)-1:], most-len(s)))
	}
}
