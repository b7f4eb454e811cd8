package interp_test

import (
	"fmt"
	"slices"
	"strings"
	"testing"

	"colophon/api"
	"colophon/digits"
	"colophon/interp"
)

// P16.1: words, and how they stand.

func TestNothing(t *testing.T) {
	shows(t, "")
	for _, s := range []string{" ", "\t", "\n", "\f", "\r", "     ", "\t\n\f\r ", " \r\f\n\t", "\r\n\r\n", strings.Repeat("\n", 1000)} {
		shows(t, s)
	}
}

func TestEachBlank(t *testing.T) {
	want := list(rule(1, 2, 4, 6), text(7, 10, 3, 4, 5))
	words := strings.Fields("1 2 3 4 re f BT /F7 10 Tf 3 4 Td <0005> Tj ET")
	shows(t, strings.Join(words, " "), want...)
	for _, b := range []string{"\t", "\n", "\f", "\r", " ", "\r\n", "  ", " \t\n\f\r", "\f\f\f\f\f"} {
		shows(t, strings.Join(words, b), want...)
		shows(t, b+strings.Join(words, " "), want...)
		shows(t, strings.Join(words, " ")+b, want...)
		shows(t, b+strings.Join(words, b)+b, want...)
		for i := range words[1:] {
			shows(t, strings.Join(words[:i+1], " ")+b+strings.Join(words[i+1:], " "), want...)
		}
	}
}

func TestBytesThatAreNoBlanks(t *testing.T) {
	for c := range 256 {
		b := string([]byte{byte(c)})
		well := strings.Contains("\t\n\f\r ", b)
		for _, s := range []string{b, b + " ", " " + b, "q" + b + "Q", b + "q Q", "q Q" + b, "q " + b + " Q", "0" + b + "0 1 1 re f", "0 0 1 1 re" + b + "f", "BT /F0 1 Tf <0001>" + b + "Tj ET", "/F0" + b + "1 Tf"} {
			may(t, fmt.Sprint("byte ", c), s, well)
		}
	}
	for _, b := range []string{"\u0085", "\u00a0", "\u2003", "\u2028", "\u3000", "\ufeff", "\x00", "\x0b", "\x1c", "%", "% \n", "()", "[]"} {
		refused(t, "no blank", b)
		refused(t, "no blank", "q"+b+"Q")
		refused(t, "no blank", "q "+b+" Q")
		refused(t, "no blank", "q Q"+b)
	}
}

func TestWordsWithoutABlankBetween(t *testing.T) {
	words := strings.Fields("q 1 0 0 1 5 6 cm 1 2 3 4 re f 1 2 3 4 re W n /F7 10 Tf BT 3 4 Td <0005> Tj 1 0 0 1 2 3 Tm <0006> Tj ET Q")
	reads(t, "all blanks", strings.Join(words, " "))
	for i := range words[1:] {
		s := strings.Join(words[:i+1], " ") + strings.Join(words[i+1:], " ")
		refused(t, "one blank less", s)
	}
	for _, s := range []string{"qQ", "BTET", "0 0 1 1 ref", "0 0 1 1re f", "0 0 1 1 reWn", "0 0 1 1 re Wn", "/F0 1Tf", "/F01 Tf", "BT /F0 1 Tf <0001>Tj ET", "BT 0 0Td ET", "q q QQ", "0 0 1-1 re f", "0 0-1 1 re f", "0 0 1 .1 re f", "1 0 0 1 0 0cm"} {
		refused(t, "no blank between", s)
	}
}

// Numbers.

// spots are streams with a place for a number, that stand for any length but
// a size, which must be above 0.
func spots() []string {
	return []string{
		"# 0 0 0 re f", "0 # 0 0 re f", "0 0 # 0 re f", "0 0 0 # re f", "q 0 0 # 0 re W n Q", "0 0 0 # re n",
		"1 0 0 1 # 0 cm", "1 0 0 1 0 # cm", "BT 1 0 0 1 # 0 Tm ET", "BT 1 0 0 1 0 # Tm ET", "BT # 0 Td ET", "BT 0 # Td ET",
	}
}

const sizeSpot = "/F0 # Tf"

func put(spot, word string) string { return strings.Replace(spot, "#", word, 1) }

// lengths are texts of lengths, from the least to the greatest.
func lengths() map[int]string {
	return map[int]string{
		-top: "-16777216", 1 - top: "-16777215.9999847412109375", -98304: "-1.5", -one: "-1", 1 - one: "-0.9999847412109375", -one / 2: "-0.5", -1: "-0.0000152587890625",
		0: "0", 1: "0.0000152587890625", one - 1: "0.9999847412109375", one: "1", one + 1: "1.0000152587890625", 98304: "1.5", 7 * one: "7", 10 * one: "10",
		100*one + 3*one/4: "100.75", 1000 * one: "1000", top - 1: "16777215.9999847412109375", top: "16777216",
	}
}

// lengthIs fails, unless a word is read as this length, wherever it stands.
func lengthIs(t *testing.T, word string, x int) {
	t.Helper()
	for _, spot := range spots() {
		reads(t, "a length", put(spot, word))
	}
	may(t, "a size", put(sizeSpot, word), x > 0)
	low, high := min(x, 0), max(x, 0)
	for s, want := range map[string]api.Mark{
		"# 0 0 0 re f":                            {Kind: api.MarkRule, Box: box(x, 0, x, 0)},
		"0 # 0 0 re f":                            {Kind: api.MarkRule, Box: box(0, x, 0, x)},
		"0 0 # 0 re f":                            {Kind: api.MarkRule, Box: box(low, 0, high, 0)},
		"0 0 0 # re f":                            {Kind: api.MarkRule, Box: box(0, low, 0, high)},
		"1 0 0 1 # 0 cm 0 0 0 0 re f":             {Kind: api.MarkRule, Box: box(x, 0, x, 0)},
		"1 0 0 1 0 # cm 0 0 0 0 re f":             {Kind: api.MarkRule, Box: box(0, x, 0, x)},
		"BT /F3 2 Tf 1 0 0 1 # 0 Tm <0009> Tj ET": {Kind: api.MarkText, Font: 3, Size: 2 * one, X: x, Glyphs: []int{9}},
		"BT /F3 2 Tf 1 0 0 1 0 # Tm <0009> Tj ET": {Kind: api.MarkText, Font: 3, Size: 2 * one, Y: x, Glyphs: []int{9}},
		"/F3 2 Tf BT # 0 Td <0009> Tj ET":         {Kind: api.MarkText, Font: 3, Size: 2 * one, X: x, Glyphs: []int{9}},
		"/F3 2 Tf BT 0 # Td <0009> Tj ET":         {Kind: api.MarkText, Font: 3, Size: 2 * one, Y: x, Glyphs: []int{9}},
		"1 0 0 1 # 0 cm /F3 2 Tf BT <0009> Tj ET": {Kind: api.MarkText, Font: 3, Size: 2 * one, X: x, Glyphs: []int{9}},
		"/F3 2 Tf 1 0 0 1 0 # cm BT <0009> Tj ET": {Kind: api.MarkText, Font: 3, Size: 2 * one, Y: x, Glyphs: []int{9}},
	} {
		shows(t, put(s, word), want)
	}
	if x > 0 {
		shows(t, "/F3 "+word+" Tf BT <0009> Tj ET", api.Mark{Kind: api.MarkText, Font: 3, Size: x, Glyphs: []int{9}})
	}
}

// noLength fails, unless a word is refused wherever a length stands.
func noLength(t *testing.T, word string) {
	t.Helper()
	for _, spot := range append(spots(), sizeSpot) {
		refused(t, "no length", put(spot, word))
	}
	for _, matrix := range []string{"# 0 0 1 0 0", "1 # 0 1 0 0", "1 0 # 1 0 0", "1 0 0 # 0 0"} {
		refused(t, "no length", put(matrix, word)+" cm")
		refused(t, "no length", "BT "+put(matrix, word)+" Tm ET")
	}
}

func TestNumbersThatTextMakes(t *testing.T) {
	for x, word := range lengths() {
		lengthIs(t, word, x)
	}
	for i := range 17 {
		for _, x := range []int{one >> i, -one >> i, 9*one + one>>i, one>>i - one, 3 * one >> i} {
			word, ok := digits.Text(x)
			if !ok || word != number(x) {
				t.Errorf("%d is written %q, not %q", x, word, number(x))
			}
			lengthIs(t, word, x)
		}
	}
}

func TestWordsThatAreNoNumbers(t *testing.T) {
	for _, word := range []string{
		"00", "01", "007", "00.5", "-01", "-00.5", "0001", // noughts ahead
		"+0", "+1", "+1.5", "+", "-", "--1", "-+1", "+-1", "- 1", "1-", "-0", "-0.0", "-00", "0-", // signs
		"0.", "1.", "-1.", ".", "-.", ".5", "-.5", "1..5", "1.5.5", "1.-5", "1,5", "1_000", "1 . 5", // points
		"0.0", "1.0", "1.50", "0.10", "0.50", "1.000", "-1.50", "0.00001525878906250", // noughts behind
		"0.1", "0.2", "0.3", "1.1", "0.7", "0.6", "0.0001", "0.00001", "0.000015258789062", "0.0000152587890624", "0.0000152587890626", "3.14159", // between two lengths
		"0.00000762939453125", "0.50000000000000001", "0.00001525878906251", "1.00001525878906255", "0.12345678901234567", // seventeen digits
		"0.00000000000000000", "1.5000000000000000", "0.00000000000000001", "0.000000000000000000000000000000000000001",
		"16777217", "-16777217", "16777216.0000152587890625", "-16777216.0000152587890625", "16777216.5", "-16777216.5", "99999999", "100000000", "1000000000000", "-99999999999999999999", // too great
		"281474976710656", "281474976710657", "18446744073709551616", "18446744073709551617", "340282366920938463463374607431768211457", strings.Repeat("9", 40), strings.Repeat("9", 41), strings.Repeat("1", 1000), // that would turn round
		"1e0", "1e5", "0x1", "0X1", "0b1", "1f", "1.5e1", "inf", "Inf", "nan", "NaN", "true", "null", "one", "1%", "#31", "\u0661", "\uff11", "1\x00", "\x001",
		strings.Repeat("0", 40), strings.Repeat("0", 41), "0." + strings.Repeat("0", 100), "-" + strings.Repeat("0", 39),
	} {
		noLength(t, word)
	}
}

func TestNumbersJustInAndOut(t *testing.T) {
	for _, x := range []int{-top, 1 - top, top - 1, top} {
		lengthIs(t, number(x), x)
	}
	for _, x := range []int{-top - 1, top + 1, top + one, -top - one, 2 * top, -2 * top} {
		noLength(t, number(x))
	}
}

// Of all words over a few bytes just those are lengths that Text makes.
func TestAllShortWords(t *testing.T) {
	pieces := "-0125.+"
	words := []string{""}
	read := 0
	for range 5 {
		var longer []string
		for _, w := range words {
			for _, c := range pieces {
				longer = append(longer, w+string(c))
			}
		}
		for _, w := range longer {
			x, ok := digits.Parse(w)
			if as(t, "a short word", "1 0 0 1 "+w+" 0 cm 0 0 0 0 re f") == api.OK != ok {
				t.Errorf("%q is %d, %v", w, x, ok)
			}
			if ok {
				read++
			}
		}
		words = longer
	}
	if read < 100 {
		t.Errorf("only %d are lengths", read)
	}
}

// Fonts.

func TestFonts(t *testing.T) {
	for font := range 100 {
		word := fmt.Sprint("/F", font)
		shows(t, word+" 10 Tf BT <0001> Tj ET", text(font, 10, 0, 0, 1))
		shows(t, "BT "+word+" 10 Tf <0001> Tj ET", text(font, 10, 0, 0, 1))
	}
	for _, word := range []string{
		"/F", "/F100", "/F101", "/F255", "/F256", "/F999", "/F1000", "/F00", "/F01", "/F001", "/F09", "/F010", "/F-0", "/F-1", "/F+1", "/F+0", "/F 1", "/F1.", "/F1.0", "/F1.5", "/F0x1", "/F1e1", "/F1_0", "/F_1", "/Fa",
		"/FF1", "/G1", "/f1", "/1", "/", "F1", "F", "//F1", "/F1/", "/F#31", "/#461", "/F1\x00", "/\x46\x31\x0b", "/F\u0661", "\\F1", "(F1)", "/F4294967296", "/F4294967297", "/F18446744073709551616", "/F18446744073709551617", "/F" + strings.Repeat("9", 100), "/F" + strings.Repeat("0", 100) + "1", "/Font", "/Helvetica", "/FT1", "/F1F",
	} {
		refused(t, "no font", word+" 10 Tf")
		refused(t, "no font", "BT "+word+" 10 Tf ET")
		refused(t, "no font", "BT "+word+" 10 Tf <0001> Tj ET")
	}
}

// Glyphs.

func TestGlyphs(t *testing.T) {
	show := func(word string) string { return "BT /F1 10 Tf 3 4 Td " + word + " Tj ET" }
	for word, want := range map[string][]int{
		"<0000>": {0}, "<0001>": {1}, "<0009>": {9}, "<000a>": {10}, "<000A>": {10}, "<000f>": {15}, "<000F>": {15}, "<0010>": {16}, "<0100>": {256}, "<1000>": {4096}, "<1234>": {0x1234}, "<abcd>": {0xabcd}, "<ABCD>": {0xabcd}, "<aBcD>": {0xabcd}, "<ffff>": {65535}, "<FFFF>": {65535}, "<fFfF>": {65535}, "<7fff>": {32767}, "<8000>": {32768},
		"<00010002>": {1, 2}, "<00000000>": {0, 0}, "<00aB00Cd>": {0xab, 0xcd}, "<000100010001>": {1, 1, 1}, "<ffff0000ffff>": {65535, 0, 65535}, "<0123456789abcdefABCDEF00>": {0x123, 0x4567, 0x89ab, 0xcdef, 0xabcd, 0xef00},
	} {
		shows(t, show(word), text(1, 10, 3, 4, want...))
	}
	for _, word := range []string{
		"<>", "<0>", "<00>", "<000>", "<00000>", "<000000>", "<0000000>", "<000000000>", "<0000000000>", "<00000000000>", // none, too few, too many digits
		"<000g>", "<g000>", "<00G0>", "<000h>", "<000z>", "<000Z>", "<000`>", "<000@>", "<000/>", "<000:>", "<0001000g>", "<000g0001>", "<0x01>", "<0X01>", "<+001>", "<-001>", "<0_01>", "<00_1>", "<1e10 >", "<00.1>", "<000\x00>", "<000\x0b>", "<00\u00e9>", "<\u0660\u0661>", "<\uff11\uff11>", // no digits
		"<0001", "0001>", "0001", "(0001)", "<<0001>>", "<<0001>", "<0001>>", "<0001><0002>", "<0001>0002", "0001<0002>", "<0001<0002>", "<0001>0002>", ">0001<", "<", ">", "><", "<<>>", "[<0001>]", "[0001]", "{0001}", "<0001]", "/0001", "/F1<0001>", "<0001>.", "<00 01>", "< 0001>", "<0001 >", "<0001 0002>", "<0001\n>", "<00\n01>", "a", "abcd", "-", "\u2039" + "0001" + "\u203a",
	} {
		refused(t, "no glyphs", show(word))
		refused(t, "no glyphs", show("<0001> Tj 1 1 Td "+word))
	}
}

func TestEachGlyph(t *testing.T) {
	var low, high strings.Builder
	var all []int
	for g := range 65536 {
		all = append(all, g)
		fmt.Fprintf(&low, "%04x", g)
		fmt.Fprintf(&high, "%04X", g)
	}
	shows(t, "BT /F1 10 Tf <"+low.String()+"> Tj ET", text(1, 10, 0, 0, all...))
	shows(t, "BT /F1 10 Tf <"+high.String()+"> Tj ET", text(1, 10, 0, 0, all...))
	for c := range 256 {
		for _, form := range []string{"<%s000>", "<0%s00>", "<00%s0>", "<000%s>", "<0000%s000>", "<0000000%s>"} {
			word := fmt.Sprintf(form, string([]byte{byte(c)}))
			may(t, fmt.Sprint("byte ", c), "BT /F1 10 Tf "+word+" Tj ET", strings.Contains("0123456789abcdefABCDEF", string([]byte{byte(c)})) && c < 128)
		}
	}
}

// Operands and operators.

// use is an operator with operands, and what must stand around it.
type use struct {
	ahead, operands, name, behind string
}

func (u use) with(operands ...string) string {
	return strings.Join(slices.Concat([]string{u.ahead}, operands, []string{u.name, u.behind}), " ")
}

func uses() []use {
	return []use{
		{"", "", "q", "Q"}, {"q", "", "Q", ""}, {"", "1 0 0 1 5 6", "cm", ""}, {"", "1 2 3 4", "re", "f"}, {"1 2 3 4 re", "", "f", ""},
		{"q 1 2 3 4 re", "", "W", "n Q"}, {"q 1 2 3 4 re W", "", "n", "Q"}, {"1 2 3 4 re", "", "n", ""}, {"", "", "BT", "ET"}, {"BT", "", "ET", ""},
		{"", "/F1 10", "Tf", ""}, {"BT", "/F1 10", "Tf", "ET"}, {"BT", "1 0 0 1 5 6", "Tm", "ET"}, {"BT", "5 6", "Td", "ET"}, {"BT /F1 10 Tf", "<0001>", "Tj", "ET"},
	}
}

func TestOperandsTooFewAndTooMany(t *testing.T) {
	for _, u := range uses() {
		right := strings.Fields(u.operands)
		reads(t, "just right", u.with(right...))
		for i := range right {
			refused(t, "one too few", u.with(slices.Delete(slices.Clone(right), i, i+1)...))
			refused(t, "from one on", u.with(right[i+1:]...))
			refused(t, "up to one", u.with(right[:i]...))
			refused(t, "one twice", u.with(slices.Insert(slices.Clone(right), i, right[i])...))
		}
		for _, more := range []string{"0", "1", "-5", "0.5", "/F0", "<0001>"} {
			for i := range len(right) + 1 {
				refused(t, "one too many", u.with(slices.Insert(slices.Clone(right), i, more)...))
				refused(t, "many too many", u.with(slices.Insert(slices.Clone(right), i, slices.Repeat([]string{more}, 100)...)...))
			}
			refused(t, "behind the operator", u.with(right...)+" "+more)
		}
		if len(right) > 0 {
			refused(t, "all twice", u.with(append(slices.Clone(right), right...)...))
		}
	}
}

func TestOperandsOfTheWrongKind(t *testing.T) {
	for _, u := range uses() {
		right := strings.Fields(u.operands)
		for i, word := range right {
			for _, other := range []string{"0", "1", "/F0", "<0001>"} {
				kinds := word[0] != other[0] && strings.ContainsAny(word+other, "/<")
				if kinds {
					refused(t, "another kind", u.with(append(append(slices.Clone(right[:i]), other), right[i+1:]...)...))
				}
			}
		}
	}
	for _, s := range []string{"10 /F1 Tf", "/F1 /F1 Tf", "10 10 Tf", "/F1 <0001> Tf", "<0001> 10 Tf", "BT /F1 10 Tf 1 Tj ET", "BT /F1 10 Tf /F1 Tj ET", "<0001> <0001> <0001> <0001> re f", "/F1 /F1 /F1 /F1 re f", "BT <0001> <0001> Td ET", "BT /F1 10 Td ET", "/F1 10 cm", "(a) Tj"} {
		refused(t, "the wrong kind", s)
	}
}

// An operator takes operands that stand right ahead of it, and behind no other
// one.
func TestOperandsAheadOfAnotherOperator(t *testing.T) {
	for _, s := range []string{"/F1 BT 10 Tf ET", "1 0 0 q 1 5 6 cm Q", "1 2 q 3 4 re f Q", "5 BT 6 Td ET", "/F1 10 Tf <0001> BT Tj ET", "1 2 3 4 BT ET re f", "BT /F1 10 Tf ET Tj", "re 1 2 3 4 f", "cm 1 0 0 1 5 6", "Tf /F1 10", "BT Td 5 6 ET", "BT /F1 10 Tf Tj <0001> ET"} {
		refused(t, "not right ahead", s)
	}
	for _, word := range []string{"0", "1", "5", "/F1", "<0001>"} {
		refused(t, "alone", word)
		refused(t, "alone, in blanks", " "+word+"\n")
		refused(t, "behind the last operator", "q Q "+word)
		refused(t, "behind the last operator", "0 0 1 1 re f "+word)
		refused(t, "behind the last operator", "BT ET "+strings.Repeat(word+" ", 6))
	}
	refused(t, "operands alone", "1 2 3 4")
	refused(t, "operands alone", "0 0 1 1 re f 0 0 1 1")
}

func TestManyOperands(t *testing.T) {
	for _, word := range []string{"0 ", "/F1 ", "<0001> "} {
		s := strings.Repeat(word, api.MaxBytes/len(word))
		refused(t, "operands alone", s)
		refused(t, "operands of re", s[:len(s)-100*len(word)]+"re f")
	}
}

func TestWordsThatAreNoOperators(t *testing.T) {
	for _, word := range []string{
		"b", "B", "b*", "B*", "BDC", "BI", "BMC", "BX", "c", "cs", "CS", "d", "d0", "d1", "Do", "DP", "EI", "EMC", "EX", "F", "f*", "g", "G", "gs", "h", "i", "ID", "j", "J", "K", "k", "l", "m", "M", "MP", "rg", "RG", "ri", "s", "S", "sc", "SC", "scn", "SCN", "sh", "T*", "Tc", "TD", "TJ", "TL", "Tr", "Ts", "Tw", "Tz", "v", "w", "W*", "y", "'", "\"",
		"N", "w", "F", "Re", "RE", "rE", "CM", "Cm", "bt", "Bt", "et", "Et", "TF", "tf", "TM", "tm", "td", "tj", "qq", "QQ", "q0", "0q", "q.", "fn", "Wn", "ff", "true", "false", "null", "obj", "endobj", "stream", "R", "q\x00", "\x00q", "q\x0b", "\u0051\u0301", "\uff31",
	} {
		for _, u := range uses() {
			right := strings.Fields(u.operands)
			if u.name == word {
				continue
			}
			other := use{u.ahead, "", word, u.behind}
			refused(t, "no operator", other.with(right...))
			refused(t, "no operator ahead", word+" "+u.with(right...))
			refused(t, "no operator behind", u.with(right...)+" "+word)
		}
		refused(t, "no operator", word)
	}
}

func TestLengthComesFirst(t *testing.T) {
	const most = 1 << 20
	if l, err := interp.Run(strings.Repeat(" ", most)); len(l) != 0 || err != api.OK {
		t.Errorf("%d blanks: %s, %v", most, tell(l), err)
	}
	s := "0 0 1 1 re f" + strings.Repeat(" ", most-12)
	shows(t, s, rule(0, 0, 1, 1))
	shows(t, strings.Repeat("\n", most-12)+"0 0 1 1 re f", rule(0, 0, 1, 1))
	glyphs := "BT /F0 1 Tf 1 0 Td <" + strings.Repeat("0001", (most-32)/4) + ">      Tj ET"
	shows(t, glyphs, text(0, 1, 1, 0, slices.Repeat([]int{1}, (most-32)/4)...))
	if len(s) != most || len(glyphs) != most {
		t.Errorf("%d and %d bytes", len(s), len(glyphs))
	}
	refused(t, "as long as may be, and wrong", strings.Repeat(" ", most-1)+"q")
	refused(t, "as long as may be, and wrong", "x"+strings.Repeat(" ", most-1))
	refused(t, "as long as may be, and one word", strings.Repeat("0", most))
	for _, x := range []int{1, 2, 100, most} {
		more := strings.Repeat(" ", x)
		for _, long := range []string{s + more, more + s, glyphs + more, strings.Repeat(" ", most) + more, "q" + s[1:] + more, strings.Repeat("x", most+x), strings.Repeat("q ", most/2) + more, strings.Repeat("\x00", most+x)} {
			if l, err := interp.Run(long); len(l) != 0 || err != api.ErrLong {
				t.Errorf("%d bytes: %s, %v", len(long), tell(l), err)
			}
		}
	}
}
