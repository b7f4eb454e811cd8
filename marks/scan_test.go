package marks_test

import (
	"fmt"
	"strings"
	"testing"

	"colophon/api"
	"colophon/marks"
	"colophon/utf"
)

func TestTheChaptersExamples(t *testing.T) {
	shows(t, "<p id=\"a\">x &lt; y</p>", open("p", "id", "a"), at(10, text("x < y")), at(18, closing("p")))
	for _, s := range []string{"<p / >", "<P>", "<p a=b>", "<p a=\"1\" a=\"2\">", "< p>", "<p"} {
		refused(t, "an example", s, 0)
	}
	refused(t, "an example", "a&b;", 1)
	refused(t, "an example", "a&#0;", 1)
	shows(t, "a > b", text("a > b"))
	if s, err := marks.Escape("a\"b"); s != "a&quot;b" || err != api.OK {
		t.Errorf("Escape: %q, %v", s, err)
	}
}

// P17.1: tokens, and where they stand.

// samples are texts of one token each.
type sample struct {
	s string
	t api.Token
}

func samples() []sample {
	return []sample{
		{"<p>", open("p")}, {"<h-1 \n x = \t\"&#62;\" y=\"/>\">", open("h-1", "x", ">", "y", "/>")},
		{"<br/>", empty("br")}, {"<a x=\"\"\r/>", empty("a", "x", "")},
		{"</p>", closing("p")}, {"</h-1 \t\n\r>", closing("h-1")},
		{"x", text("x")}, {" \u00e9&amp;\u20ac > \"\U0001f600&#10;", text(" \u00e9&\u20ac > \"\U0001f600\n")},
	}
}

// joined are texts of such tokens, one behind the other, and these in their places.
func joined(l []sample) (string, []api.Token) {
	var s string
	var tokens []api.Token
	for _, x := range l {
		last := len(tokens) - 1
		if last >= 0 && x.t.Kind == api.TokText && tokens[last].Kind == api.TokText {
			tokens[last].Text += x.t.Text
		} else {
			tokens = append(tokens, at(len(s), x.t))
		}
		s += x.s
	}
	return s, tokens
}

func TestEachKindInEachPlace(t *testing.T) {
	shows(t, "")
	rows := [][]sample{nil}
	for range 3 {
		var longer [][]sample
		for _, row := range rows {
			for _, x := range samples() {
				longer = append(longer, append(row[:len(row):len(row)], x))
			}
		}
		rows = longer
		for _, row := range rows {
			s, tokens := joined(row)
			shows(t, s, tokens...)
		}
	}
}

func TestPlacesBehindCharactersOfEachLength(t *testing.T) {
	ahead, place := "", 0
	var want []api.Token
	for _, c := range []string{"a", "\u00a0", "\u07ff", "\u0800", "\ufffd", "\uffff", "\U00010000", "\U0010ffff", "&lt;", "&#1114111;", "\t"} {
		for _, x := range samples()[:6] {
			said, _ := modelPlain(c + c)
			shows(t, c+c+x.s+c+c, text(said), at(2*len(c), x.t), at(2*len(c)+len(x.s), text(said)))
			shows(t, "<p x=\""+c+"\">"+x.s, open("p", "x", said[:len(said)/2]), at(8+len(c), x.t))
			refused(t, "a place", c+x.s+"<P>", len(c)+len(x.s))
			refused(t, "a place", c+"&x;", len(c))
			refused(t, "a place", c+"\x01", len(c))
			refused(t, "a place", "<p x=\""+c+"\">&;", 8+len(c))
			ahead += c + x.s
			want = append(want, at(place, text(said[:len(said)/2])), at(place+len(c), x.t))
			place += len(c) + len(x.s)
		}
	}
	shows(t, ahead, want...)
}

// Names.

func TestNames(t *testing.T) {
	for _, n := range []string{"a", "z", "a-", "a9", "a0", "az", "a--", "a-9z", "abcdefghijklmnop", "a---------------", "z999999999999999"} {
		shows(t, "<"+n+">", open(n))
		shows(t, "<"+n+"/>", empty(n))
		shows(t, "</"+n+">", closing(n))
		shows(t, "<p "+n+"=\"\">", open("p", n, ""))
		shows(t, "<p x=\"1\" "+n+" = \"2\" />", empty("p", "x", "1", n, "2"))
	}
	for _, n := range []string{
		"", "-", "0", "9", "-a", "0a", "9a", "A", "Z", "aA", "Aa", "aZz", "abcdefghijklmnopq", "abcdefghijklmnopqrstuvwxyz", "a----------------",
		"a_", "_a", "a.b", "a:b", "a\u00e9", "\u00e9", "a\x00", "a'", "a!", "!a", "?a", "a*", "a,", "a&", "&a", "&lt;", "a;", "a\x7f", "a\u0085b", "a+", "a@", "a`", "a{", "a[", "a~",
	} {
		refused(t, "no name", "<"+n+">", 0)
		refused(t, "no name", "<"+n+"/>", 0)
		refused(t, "no name", "</"+n+">", 0)
		refused(t, "no name", "<"+n+" x=\"\">", 0)
		refused(t, "no name", "<p "+n+"=\"\">", 0)
		refused(t, "no name", "<p x=\"1\" "+n+" = \"2\" />", 0)
		refused(t, "no name", "\u00e9<q>u<p>\n<p "+n+"=\"\">", 10)
	}
}

// Each character of the first 300 and some beyond, at each place of a name.
func TestEachCharacterOfAName(t *testing.T) {
	of := func(c rune) bool { return c >= 'a' && c <= 'z' }
	for c := range rune(300) {
		first := of(c)
		behind := first || c == '-' || c >= '0' && c <= '9'
		for _, n := range []string{string(c), string(c) + "b", "a" + string(c), "a" + string(c) + "b", "abcdefghijklmno" + string(c), string(c) + "bcdefghijklmnop"} {
			well := behind && n[0] == 'a' || first
			for _, s := range []string{"<" + n + ">", "<" + n + "/>", "</" + n + ">", "<p " + n + "=\"\">"} {
				// A character of another use is held by the model alone.
				if err := as(t, "a name", s); (err == api.OK) != well && !strings.ContainsRune("\t\n\r />=\"", c) && !(n == string(c) && c == '<') {
					t.Errorf("Scan(%q): %v", s, err)
				}
			}
		}
	}
}

// Blanks.

// ofTags are tags with ~ where a blank may stand, and ! where none may.
func ofTags() []sample {
	return []sample{
		{"<!p!q~>", open("pq")}, {"<!p~/!>", empty("p")}, {"<!/!p!q~>", closing("pq")},
		{"<!p!q~ ~x!y~=~\"v\"~ ~z~=~\"&!#!6!5!;w\"~>", open("pq", "xy", "v", "z", "Aw")},
		{"<!p~ ~x~=~\"v\"~ ~z~=~\"&!l!t!;\"~/!>", empty("p", "x", "v", "z", "<")},
		{"<!p~ ~x!-!9~=~\"\"~>", open("p", "x-9", "")},
	}
}

// between puts a text into one gap of a tag's, and nothing into the others.
func between(s string, gap int, put string) string {
	out := strings.NewReplacer("~", "", "!", "")
	return out.Replace(s[:gap]) + put + out.Replace(s[gap+1:])
}

func TestBlanksInEachPlace(t *testing.T) {
	for _, x := range ofTags() {
		shows(t, strings.NewReplacer("~", "", "!", "").Replace(x.s), x.t)
		for gap := range x.s {
			if x.s[gap] != '~' && x.s[gap] != '!' {
				continue
			}
			for _, b := range []string{"\t", "\n", "\r", " ", "\r\n", "  ", "\n\n\n", " \t\n\r \t\n\r", strings.Repeat("\n", 1000)} {
				if x.s[gap] == '~' {
					shows(t, between(x.s, gap, b), x.t)
				} else {
					refused(t, "a blank", between(x.s, gap, b), 0)
				}
			}
			for _, b := range []string{"\v", "\f", "\x00", "\u0085", "\u00a0", "\u2003", "\u2028", "\u3000", "\ufeff", " \v", "\f ", "&#32;", "//", ".", "<"} {
				refused(t, "no blank", between(x.s, gap, b), 0)
			}
		}
		all := strings.NewReplacer("~", " \n\t\r", "!", "").Replace(x.s)
		shows(t, all, x.t)
		shows(t, "\n"+all+"\t", text("\n"), at(1, x.t), at(1+len(all), text("\t")))
	}
	// Where nothing else parts an attribute from what stands ahead, a blank must.
	for _, b := range []string{"\t", "\n", "\r", " ", "\n \n"} {
		shows(t, "<p"+b+"x=\"1\""+b+"y=\"2\"/>", empty("p", "x", "1", "y", "2"))
		shows(t, "<p x=\""+b+"a"+b+"\">"+b, open("p", "x", b+"a"+b), at(9+2*len(b), text(b)))
	}
	for _, b := range []string{"", "\v", "\f", "\v ", " \f", "\u00a0", "/", ",", ";", "\x00"} {
		refused(t, "unparted", "<p"+b+"x=\"1\" y=\"2\">", 0)
		refused(t, "unparted", "<p x=\"1\""+b+"y=\"2\">", 0)
	}
}

// Attributes.

// many are so many attributes, with names unlike.
func many(n int) (string, []string) {
	s, l := "", []string{}
	for i := range n {
		s += fmt.Sprintf(" a%d=\"%d\"", i, i*i)
		l = append(l, fmt.Sprint("a", i), fmt.Sprint(i*i))
	}
	return s, l
}

func TestHowManyAttributes(t *testing.T) {
	for n := range 40 {
		s, l := many(n)
		if n <= 16 {
			shows(t, "<p"+s+">", open("p", l...))
			shows(t, "<p"+s+" />", empty("p", l...))
			shows(t, "x<p"+s+"/>x", text("x"), at(1, empty("p", l...)), at(5+len(s), text("x")))
		} else {
			refused(t, "too many", "<p"+s+">", 0)
			refused(t, "too many", "<p"+s+"/>", 0)
			refused(t, "too many", "<b>x<p"+s+">", 4)
		}
		if n > 0 {
			refused(t, "a closing tag", "</p"+s+">", 0)
		}
	}
	s, l := many(16)
	shows(t, "<p"+s+"><q"+s+">", open("p", l...), at(3+len(s), open("q", l...)))
}

func TestNamesThatAreAlike(t *testing.T) {
	shows(t, "<a a=\"a\" aa=\"a\" b=\"a\" a-=\"\" a1=\"\">", open("a", "a", "a", "aa", "a", "b", "a", "a-", "", "a1", ""))
	for n := 2; n <= 16; n++ {
		for i := range n {
			for j := range i {
				s, _ := many(n)
				as := strings.Split(s, " ")[1:]
				name, _, _ := strings.Cut(as[j], "=")
				as[i] = name + "=\"other\""
				refused(t, "alike", "<p "+strings.Join(as, " ")+">", 0)
				refused(t, "alike", "x<p "+strings.Join(as, "\n")+"/>", 1)
			}
		}
	}
	refused(t, "alike", "<p a=\"1\" a=\"1\">", 0)
	refused(t, "alike", "<p a=\"\" b=\"\" a=\"\"/>", 0)
	refused(t, "alike, with a fault behind", "<p a=\"1\" a=\"2\"><P>", 0)
	// Tags of their own.
	shows(t, "<p a=\"1\"><p a=\"1\">", open("p", "a", "1"), at(9, open("p", "a", "1")))
}

func TestAttributesThatAreNone(t *testing.T) {
	for _, a := range []string{
		"a", "a=", "a=b", "a=\"", "a=\"b", "a=b\"", "a=\"b\"c", "a=\"b\"\"", "a\"b\"", "a \"b\"", "a:\"b\"", "a==\"b\"", "=\"b\"", "\"b\"", "a='b'", "a=\"b'", "a='b\"", "a=\u201cb\u201d", "a=b c=\"d\"",
		"a=\"<\"", "a=\"b<\"", "a=\"<b\"", "a=\"&\"", "a=\"&;\"", "a=\"&b;\"", "a=\"b & c\"", "a=\"&lt\"", "a=\"\x00\"", "a=\"b\x01\"", "a=\"\v\"", "a=\"\f\"", "a=\"\x1f\"", "a=\"\x7f\"", "a=\"\u0080\"", "a=\"\u009fb\"",
		"A=\"b\"", "a=\"b\" c", "a=\"b\" c=", "a=\"b\" c=\"", "a=\"b\"c=\"d\"", "a=\"b\",c=\"d\"", "a=\"b\" / c=\"d\"", "a=\"b\" =", "a=\"b\" \"", "a = = \"b\"", "a=&quot;b&quot;", "a=&quot;b\"", "&#97;=\"b\"",
	} {
		refused(t, "no attribute", "<p "+a+">", 0)
		refused(t, "no attribute", "<p "+a+"/>", 0)
		refused(t, "no attribute", "</p "+a+">", 0)
		refused(t, "no attribute", "<p x=\"y\" "+a+">", 0)
		refused(t, "no attribute", "<p "+a+" x=\"y\">", 0)
		refused(t, "no attribute", "x<p "+a+">", 1)
		refused(t, "no attribute", "<p>x</p><p "+a, 8)
	}
}

func TestValues(t *testing.T) {
	for _, v := range []string{"", "a", ">", "/", "/>", "a>b", "<p>"[1:], "=", "'", " ", "\t\n\r", "  a  b ", "-", "\u00a0", "\u00e9", "\u20ac", "\ufffd", "\uffff", "\U0010ffff", ";", "#", "lt;", "a=b", "</p>"[1:], "--", "]]>", strings.Repeat("x", 100000)} {
		shows(t, "<p a=\""+v+"\">", open("p", "a", v))
		shows(t, "<p a=\""+v+"\"/>", empty("p", "a", v))
		shows(t, "<p a=\"1\" b=\""+v+"\" c=\""+v+"\">"+"<q>", open("p", "a", "1", "b", v, "c", v), at(19+2*len(v), open("q")))
	}
}

// Ends of tags.

func TestEmptyTags(t *testing.T) {
	for _, b := range []string{"", " ", "\n", "\t \r"} {
		shows(t, "<p"+b+"/>", empty("p"))
		shows(t, "<p a=\"1\""+b+"/>", empty("p", "a", "1"))
		shows(t, "<p"+b+"/>"+" ", empty("p"), at(4+len(b), text(" ")))
		for _, s := range []string{"/ >", "/\n>", "/", "/ ", "//>", "/a>", "/a=\"\">", "/ a=\"\">", "/p>", "/\">", "/<>", "/\x00>"} {
			refused(t, "no end", "<p"+b+s, 0)
			refused(t, "no end", "<p a=\"1\""+b+s, 0)
			refused(t, "no end", "<q/><p"+b+s, 4)
		}
		refused(t, "closing and empty", "</p"+b+"/>", 0)
	}
	shows(t, "<p/>>", empty("p"), at(4, text(">")))
	shows(t, "<p>/>", open("p"), at(3, text("/>")))
}

func TestClosingTags(t *testing.T) {
	shows(t, "</p></p>", closing("p"), at(4, closing("p")))
	for _, s := range []string{"</>", "</ >", "</ p>", "< /p>", "<\n/p>", "</p", "</p ", "</", "</p/>", "</p />", "</p a=\"1\">", "</p a>", "</p q>", "</p<", "</p<p>", "</pP>", "</P>", "</9>", "<//p>", "</p\">", "</p=>", "</p\x00>", "</p\v>", "</p&>", "</p&lt;>"} {
		refused(t, "no closing tag", s, 0)
		refused(t, "no closing tag", s+"</p>", 0)
		refused(t, "no closing tag", "<p>"+s, 3)
	}
}

func TestTagsWithoutAnEnd(t *testing.T) {
	for _, x := range samples()[:6] {
		for cut := 1; cut < len(x.s); cut++ {
			refused(t, "cut off", x.s[:cut], 0)
			refused(t, "cut off", "\u20ac"+x.s[:cut], 3)
			refused(t, "cut off", x.s+x.s[:cut], len(x.s))
			refused(t, "cut off", x.s[:cut]+x.s, 0)
			refused(t, "cut off", x.s[:cut]+"\n", 0)
		}
	}
	refused(t, "its end in a value", "<p a=\">", 0)
	refused(t, "its end in a value", "<p a=\">x</p>", 0)
	refused(t, "its end in another's value", "<p a=\"<q b=\">\">", 0)
	for _, s := range []string{"<", "<<", "<>", "< ", "<\n>", "<!-- x -->", "<!p>", "<?p?>", "<![CDATA[x]]>", "<=>", "<\"p\">", "<&lt;>", "<<p>>", "<p<q>>", "<p <q>", "<p>x<", "<p><p", "a<b>c<"} {
		refused(t, "no tag", s, firstBad(s))
	}
}

// firstBad is where the first tag begins that is none, by the model.
func firstBad(s string) int {
	_, place, _ := modelScan(s)
	return place
}

// Entities.

func TestEntities(t *testing.T) {
	said := map[string]string{
		"&lt;": "<", "&gt;": ">", "&amp;": "&", "&quot;": "\"", "&#9;": "\t", "&#10;": "\n", "&#13;": "\r", "&#32;": " ", "&#34;": "\"", "&#38;": "&", "&#60;": "<", "&#62;": ">", "&#65;": "A", "&#126;": "~", "&#160;": "\u00a0", "&#233;": "\u00e9",
		"&#8364;": "\u20ac", "&#55295;": "\ud7ff", "&#57344;": "\ue000", "&#65279;": "\ufeff", "&#65533;": "\ufffd", "&#65534;": "\ufffe", "&#65535;": "\uffff", "&#65536;": "\U00010000", "&#128512;": "\U0001f600", "&#999999;": "\U000f423f", "&#1000000;": "\U000f4240", "&#1114111;": "\U0010ffff",
	}
	for e, c := range said {
		shows(t, e, text(c))
		shows(t, "a"+e, text("a"+c))
		shows(t, e+"b", text(c+"b"))
		shows(t, e+e+";"+e, text(c+c+";"+c))
		shows(t, "<p>"+e+"</p>", open("p"), at(3, text(c)), at(3+len(e), closing("p")))
		shows(t, "<p a=\""+e+"\">", open("p", "a", c))
		shows(t, "<p a=\"x"+e+e+";y\"/>", empty("p", "a", "x"+c+c+";y"))
		refused(t, "in a name", "<"+e+">", 0)
		refused(t, "in a name", "<p "+e+"=\"\">", 0)
		refused(t, "in the place of a \"", "<p a="+e+"\">", 0)
	}
	// What an entity says begins nothing.
	shows(t, "&lt;p&gt;", text("<p>"))
	shows(t, "&amp;lt;", text("&lt;"))
	shows(t, "&#38;#60;", text("&#60;"))
	shows(t, "<p a=\"&quot; b=&quot;\">", open("p", "a", "\" b=\""))
}

func noEntities() []string {
	return []string{
		"&", "&;", "& ;", "&l;", "&LT;", "&Lt;", "&lt", "&lt ;", "& lt;", "&ltx;", "&xlt;", "&g;", "&GT;", "&gt", "&a;", "&AMP;", "&amp", "&am;", "&amp ;", "&quo;", "&QUOT;", "&quot", "&apos;", "&nbsp;", "&&", "&&lt", "&&amp;", "&#", "&#;", "&# ;", "&#lt;", "&#x41;", "&#X41;", "&x41;", "&41;", "&#41", "&#4 1;", "&# 41;", "&#41 ;", "&#\n41;",
		"&#041;", "&#00;", "&#0065;", "&#01;", "&#4a;", "&#a;", "&#a4;", "&#-65;", "&#+65;", "&#6.5;", "&#65.;", "&#6_5;", "&#6,5;", "&#1e2;", "&##65;", "&#65#;", "&#\u0661;", "&#\uff16;", "&#:;", "&#/;", "&#4:;", "&#4/;",
		"&#0;", "&#1;", "&#8;", "&#11;", "&#12;", "&#14;", "&#31;", "&#127;", "&#128;", "&#133;", "&#159;", "&#55296;", "&#56320;", "&#57343;",
		"&#1114112;", "&#1114120;", "&#1200000;", "&#9999999;", "&#10000000;", "&#11141110;", "&#2147483648;", "&#4294967296;", "&#4294967361;", "&#9223372036854775807;", "&#9223372036854775808;", "&#18446744073709551616;", "&#18446744073709551681;", "&#" + strings.Repeat("9", 1000) + ";", "&#1" + strings.Repeat("0", 100000) + ";",
		"&lt\x01;", "&\x01;", "&#6\x015;", "&\u00e9;", "&l\u20act;", "&" + strings.Repeat("a", 100000) + ";", "&#\x00;",
	}
}

func TestEntitiesThatAreNone(t *testing.T) {
	for _, e := range noEntities() {
		refused(t, "no entity", e, 0)
		refused(t, "no entity", "x"+e, 1)
		refused(t, "no entity", "\u20ac\n"+e+" y", 4)
		refused(t, "no entity", "&lt;"+e+"&gt;"+e, 4)
		refused(t, "no entity", "<p>"+e+"</p>", 3)
		refused(t, "no entity", "</p>"+e+"<q", 4)
		refused(t, "no entity", "<p a=\""+e+"\">", 0)
		refused(t, "no entity", "<p a=\"1\" b=\"x"+e+"y\"/>", 0)
		refused(t, "no entity", "\u00e9<p a=\"1\" b=\"&lt;"+e+"\"/>", 2)
	}
}

// Each number up to some beyond the last code point, as an entity, and each code
// point as itself.
func TestEachCodePoint(t *testing.T) {
	well := 0
	for c := range 1114112 + 500 {
		said, ok := modelPoint(fmt.Sprint(c))
		l, place, err := marks.Scan(fmt.Sprintf("x&#%d;", c))
		if ok && (err != api.OK || len(l) != 1 || l[0].Text != "x"+said) || !ok && (err != api.ErrToken || place != 1 || len(l) > 0) {
			t.Fatalf("&#%d;: %v, %d, %v", c, l, place, err)
		}
		if c > 1114111 || c >= 0xd800 && c <= 0xdfff {
			continue
		}
		itself := string(rune(c))
		l, place, err = marks.Scan("\u00e9" + itself + "y")
		switch {
		case c == '<' || c == '&':
			if err != api.ErrToken || place != 2 {
				t.Errorf("%q: %v, %d, %v", itself, l, place, err)
			}
		case ok && (err != api.OK || len(l) != 1 || l[0].Text != "\u00e9"+itself+"y"), !ok && (err != api.ErrToken || place != 2 || len(l) > 0):
			t.Fatalf("%q: %v, %d, %v", itself, l, place, err)
		case ok:
			well++
		}
	}
	if want := 1114112 - 2048 - 65 + 3 - 2; well != want {
		t.Errorf("%d code points may stand in a text as they are; asked: %d", well, want)
	}
}

// Control characters, and what is not UTF-8.

func TestControlCharacters(t *testing.T) {
	for c := range 256 {
		s := string(rune(c))
		if utf.Class(c) != api.ClassControl {
			continue
		}
		refused(t, "control", s, 0)
		refused(t, "control", "\u20ac"+s, 3)
		refused(t, "control", s+"x"+s, 0)
		refused(t, "control", "<p>x"+s+"</p>", 4)
		refused(t, "control", "<p>x</p>"+s, 8)
		for _, tag := range []string{"<#p>", "<p#>", "<p# >", "<p #>", "<p a=\"#\">", "<p a=\"x#y\">", "<p a#=\"\">", "<p a=#\"\">", "<p a=\"\"#>", "<p a=\"\" #>", "<p#/>", "<p/#>", "<#/p>", "</#p>", "</p#>", "</p #>", "<#", "<p#", "<p a=\"#", "<p a=\"&#;\">"} {
			tag = strings.Replace(tag, "#", s, 1)
			refused(t, "control in a tag", tag, 0)
			refused(t, "control in a tag", "ab"+tag+s, 2)
		}
		e := fmt.Sprintf("&#%d;", c)
		refused(t, "control", e, 0)
		refused(t, "control", "xy"+e, 2)
		refused(t, "control in a tag", "xyz<p a=\""+e+"\">", 3)
	}
}

func noUtf() []string {
	return []string{
		"\xff", "\xfe", "\x80", "\xbf", "\xc0\x80", "\xc1\xbf", "\xc3", "\xe2\x82", "\xe0\x9f\xbf", "\xed\xa0\x80", "\xed\xbf\xbf", "\xf0\x9f\x98", "\xf0\x8f\xbf\xbf", "\xf4\x90\x80\x80", "\xf8\x88\x80\x80\x80", "\xc3<", "\xe2\x82>", "\xe2\x82\"",
	}
}

func TestWhatIsNotUtf(t *testing.T) {
	for _, b := range noUtf() {
		for _, s := range []string{
			b, "x" + b, b + "x", "<p>" + b, "<p>" + b + "</p>", "<" + b + ">", "<p" + b, "<p " + b + ">", "<p a=\"" + b + "\">", "</p" + b + ">", "<p/" + b + ">", "&" + b, "&" + b + ";", "&#6" + b + "5;", "\u20ac" + b, "\u00e9<p>\U0001f600" + b + b,
			"<P>" + b, "&;" + b, "\x01" + b, "<p a=\"\" a=\"\">" + b, "<p" + b + "<P>", b + "<P>", b + "&", b + "\x01", "<" + b, "< p" + strings.Repeat("x", 1000) + b, "&&&&<<<<" + b,
		} {
			_, place, err := utf.Decode(s)
			if err != api.ErrUtf {
				t.Fatalf("%q is UTF-8", s)
			}
			wrong(t, "not UTF-8", s, place, api.ErrUtf)
		}
	}
}

// Of several faults, the first.

func TestTheFirstOfTwoFaults(t *testing.T) {
	tags := []string{"<P>", "<p~", "< p>", "<p / >", "<p a=b>", "<p a=\"&x;\">", "<p a=\"\x01\">", "<p a=\"1\" a=\"2\">", "</p a=\"\">", "<"}
	entities := []string{"&x;", "&", "&#0;", "&#1114112;", "&\x01;"}
	controls := []string{"\x01", "\x7f", "\u0085"}
	faults := append(append(tags, entities...), controls...)
	for _, a := range faults {
		for _, b := range faults {
			for _, ahead := range []string{"", "x", "<p>", "\u20ac&lt;</q>"} {
				for _, amid := range []string{"", ";", ">", "x", "<p>", "</p> y", "\">"} {
					s := ahead + a + amid + b
					refused(t, "two faults", s, len(ahead))
					refused(t, "two faults", s+amid, len(ahead))
					wrong(t, "two faults, and no UTF-8", s+"\x80", len(s), api.ErrUtf)
				}
			}
		}
	}
}

// Lengths.

func TestLengths(t *testing.T) {
	for _, x := range []struct{ ahead, with, behind string }{
		{"", "x", ""}, {"<p>", "x", "</p>"}, {"<p", " ", ">"}, {"<p a=\"", "x", "\">"}, {"<p ", "\n", "/>"}, {"</p", "\r", ">"}, {"<p>x", "\u00e9", "</p>"}, {"", "&lt;", ""}, {"", "\U0001f600", ""}, {"", "<p>x", ""}, {"<q>", "<p></p>", "</q>"}, {"", "<b/>", ""},
	} {
		n := (most - len(x.ahead) - len(x.behind)) / len(x.with)
		s := x.ahead + strings.Repeat(x.with, n) + x.behind
		s += strings.Repeat(" ", most-len(s))
		if err := as(t, "just as long", s); err != api.OK || len(s) != most {
			t.Errorf("%s, %d bytes: %v", tell(s), len(s), err)
		}
		wrong(t, "a byte more", s+" ", 0, api.ErrLong)
		wrong(t, "a byte more", " "+s, 0, api.ErrLong)
		wrong(t, "as much again", s+s, 0, api.ErrLong)
	}
	full := strings.Repeat("x", most-1)
	refused(t, "as long, and wrong", full+"<", most-1)
	refused(t, "as long, and wrong", full+"&", most-1)
	refused(t, "as long, and wrong", full+"\x01", most-1)
	wrong(t, "as long, and wrong", full+"\xff", most-1, api.ErrUtf)
	refused(t, "as long, and wrong", "<"+full, 0)
	refused(t, "as long, and wrong", "&"+full, 0)
	refused(t, "as long, and wrong", "&#"+strings.Repeat("1", most-3)+";", 0)
	refused(t, "as long, and wrong", "<"+strings.Repeat(" ", most-1), 0)
	refused(t, "as long, and wrong", "<p a=\""+strings.Repeat(">", most-6), 0)
	for _, b := range []string{"<", "<P>", "&", "&;", "\x01", "\xff", "<p>", "x"} {
		wrong(t, "too long, and wrong", b+strings.Repeat("x", most), 0, api.ErrLong)
		wrong(t, "too long, and wrong", strings.Repeat("x", most)+b, 0, api.ErrLong)
		wrong(t, "too long, and wrong", strings.Repeat(b, most+1), 0, api.ErrLong)
	}
}
