package unimap_test

import (
	"fmt"
	"slices"
	"strings"
	"testing"

	"colophon/api"
	"colophon/unimap"
)

// P14.3

// sizes are how many pairs lists have: around each number at which texts change.
func sizes() []int {
	return []int{0, 1, 2, 9, 10, 11, 98, 99, 100, 101, 102, 199, 200, 201, 202, 299, 300, 301, 4000, 4001, 4095, 4096}
}

func TestTextsWrittenOut(t *testing.T) {
	for _, x := range []struct {
		what string
		l    []api.Pair
		want string
	}{
		{"none", nil, whole()},
		{"one", pairs(1, 97), whole("1 beginbfchar\n<0001> <0061>\nendbfchar\n")},
		{"the least", pairs(0, 0), whole("1 beginbfchar\n<0000> <0000>\nendbfchar\n")},
		{"the greatest", pairs(65535, 1114111), whole("1 beginbfchar\n<ffff> <dbffdfff>\nendbfchar\n")},
		{"all digits", pairs(0x0123, 0x4567, 0x89ab, 0xcdef), whole("2 beginbfchar\n<0123> <4567>\n<89ab> <cdef>\nendbfchar\n")},
		{"beside what is none", pairs(1, 55295, 2, 57344), whole("2 beginbfchar\n<0001> <d7ff>\n<0002> <e000>\nendbfchar\n")},
		{"two units", pairs(1, 65535, 2, 65536, 3, 66559, 4, 66560, 5, 0x1f600), whole("5 beginbfchar\n<0001> <ffff>\n<0002> <d800dc00>\n<0003> <d800dfff>\n<0004> <d801dc00>\n<0005> <d83dde00>\nendbfchar\n")},
		{"the same code point", pairs(1, 97, 2, 97, 3, 97), whole("3 beginbfchar\n<0001> <0061>\n<0002> <0061>\n<0003> <0061>\nendbfchar\n")},
		{"codes that fall", pairs(1, 99, 2, 98, 3, 97), whole("3 beginbfchar\n<0001> <0063>\n<0002> <0062>\n<0003> <0061>\nendbfchar\n")},
	} {
		if s := written(t, x.what, x.l); s != x.want {
			t.Errorf("%s: %s; asked: %s", x.what, tell(s), tell(x.want))
		}
	}
}

func TestHundreds(t *testing.T) {
	for _, n := range sizes() {
		s := written(t, fmt.Sprint(n, " pairs"), some(n))
		either(t, fmt.Sprint(n, " pairs"), s)
		blocks := (n + 99) / 100
		if strings.Count(s, " beginbfchar\n") != blocks || strings.Count(s, "\nendbfchar\n") != blocks || strings.Count(s, "100 beginbfchar\n") != n/100 {
			t.Errorf("%d pairs: %s", n, tell(s))
		}
		if n%100 != 0 && !strings.Contains(s, fmt.Sprint("\n", n%100, " beginbfchar\n")) {
			t.Errorf("%d pairs: %s", n, tell(s))
		}
		if strings.Count(s, "\n") != 11+n+2*blocks {
			t.Errorf("%d pairs: %d lines", n, strings.Count(s, "\n"))
		}
	}
	for _, n := range []int{4097, 4098, 4100, 4101, 5000, 65536} {
		var l []api.Pair
		for i := range n {
			l = append(l, api.Pair{Glyph: i, Code: 97})
		}
		unwritten(t, fmt.Sprint(n, " pairs"), l)
	}
}

func TestListsWithoutAText(t *testing.T) {
	for _, g := range []int{-1, -2, -65535, -65536, 65536, 65537, 1 << 31, 1 << 32, 1<<32 + 5, -1<<32 + 5, least, least + 5, most} {
		unwritten(t, fmt.Sprint("glyph ", g), pairs(g, 97))
		unwritten(t, fmt.Sprint("glyph ", g, " in the midst"), pairs(3, 97, g, 98, 65535, 99))
		unwritten(t, fmt.Sprint("glyph ", g, " at the end"), pairs(3, 97, g, 98))
		unwritten(t, fmt.Sprint("glyph ", g, " at the beginning"), pairs(g, 97, 5, 98))
	}
	for _, c := range []int{-1, -97, 55296, 55297, 56319, 56320, 57343, 1114112, 1114113, 1 << 31, 1 << 32, 1<<32 + 97, -1<<32 + 97, least, least + 97, most} {
		unwritten(t, fmt.Sprint("code ", c), pairs(1, c))
		unwritten(t, fmt.Sprint("code ", c, " at the end"), pairs(1, 97, 2, c))
		unwritten(t, fmt.Sprint("code ", c, " at the beginning"), pairs(1, c, 2, 97))
	}
	unwritten(t, "falling", pairs(2, 97, 1, 98))
	unwritten(t, "alike", pairs(1, 97, 1, 98))
	unwritten(t, "alike in both", pairs(1, 97, 1, 97))
	unwritten(t, "alike, 0", pairs(0, 97, 0, 98))
	unwritten(t, "alike, the greatest", pairs(65535, 97, 65535, 98))
	unwritten(t, "falling at the end", pairs(1, 97, 2, 97, 5, 97, 4, 97))
	unwritten(t, "falling at the beginning", pairs(2, 97, 1, 97, 5, 97, 6, 97))
	unwritten(t, "below the last but one", pairs(1, 97, 5, 97, 3, 97))
	// The first fault stands where a hundred ends, or behind it.
	for _, at := range []int{0, 1, 98, 99, 100, 101, 199, 200, 249} {
		l := some(250)
		l[at].Code = 0xd800
		unwritten(t, fmt.Sprint("no code point at ", at), l)
		l = some(250)
		l[at].Glyph = l[(at+249)%250].Glyph
		unwritten(t, fmt.Sprint("a glyph twice at ", at), l)
	}
}

func TestManyTexts(t *testing.T) {
	for seed := range 3000 {
		next := numbers(seed)
		var l []api.Pair
		g := next(3) - 1
		for range next(250) {
			l = append(l, api.Pair{Glyph: g, Code: next(0x110001)})
			g += next(400)
		}
		what := fmt.Sprint("seed ", seed)
		if modelMay(l) {
			written(t, what, l)
		} else {
			unwritten(t, what, l)
		}
	}
	for c := 0; c < 0x110400; c += 61 {
		if what := fmt.Sprint("code ", c); isPoint(c) {
			written(t, what, pairs(c%65536, c))
		} else {
			unwritten(t, what, pairs(c%65536, c))
		}
	}
	for g := range 65536 {
		if s, err := unimap.Write(pairs(g, 97)); s != whole(fmt.Sprintf("1 beginbfchar\n<%04x> <0061>\nendbfchar\n", g)) || err != api.OK {
			t.Fatalf("glyph %d: %s, %v", g, tell(s), err)
		}
	}
}

// Read: every text but those that Write makes is refused.

// turned hands on a text with one byte changed, left out or doubled.
func turned(s string, places, values []int, hand func(what, s string)) {
	for _, i := range places {
		for _, x := range values {
			if byte(x) != s[i] {
				hand(fmt.Sprint("byte ", i, " is ", x), s[:i]+string([]byte{byte(x)})+s[i+1:])
			}
		}
		for _, flip := range []byte{1, 2, 16, 32, 128} {
			hand(fmt.Sprint("byte ", i, " is turned by ", flip), s[:i]+string([]byte{s[i] ^ flip})+s[i+1:])
		}
		hand(fmt.Sprint("byte ", i, " is left out"), s[:i]+s[i+1:])
		hand(fmt.Sprint("byte ", i, " is doubled"), s[:i+1]+s[i:])
	}
}

func upTo(from, to int) []int {
	var l []int
	for x := from; x <= to; x++ {
		l = append(l, x)
	}
	return l
}

func TestEachByte(t *testing.T) {
	const good = "0123456789abcdef"
	values := []int{0, ' ', '\n', '\r', '\t', '0', '1', '9', 'a', 'f', 'g', 'A', 'F', '<', '>', '_', '+', '-', 255}
	for _, x := range []struct {
		what   string
		l      []api.Pair
		values []int
		step   int
	}{
		{"none", nil, upTo(0, 255), 1},
		{"one", pairs(0x12, 0x61), upTo(0, 255), 1},
		{"one of two units", pairs(0x12, 0x1f600), upTo(0, 255), 1},
		{"three", pairs(0, 0x1f600, 9, 0xd7ff, 0xfff0, 0x20), values, 1},
		{"99", some(99), values, 19},
		{"100", some(100), values, 19},
		{"101", some(101), values, 19},
		{"200", some(200), values, 41},
		{"201", some(201), values, 41},
		{"4096", some(4096), []int{'0', '\n'}, 1001},
	} {
		s := written(t, x.what, x.l)
		var places []int
		for i := range s {
			near := len(s) < 10000 && strings.Contains(s[max(0, i-10):min(len(s), i+10)], "bfchar")
			if i%x.step == 0 || near {
				places = append(places, i)
			}
		}
		right := 0
		turned(s, places, x.values, func(what, text string) {
			if either(t, x.what+", "+what, text) {
				right++
				// Only another digit of a pair makes another list's text.
				at := 0
				for text[at] == s[at] {
					at++
				}
				if len(text) != len(s) || strings.IndexByte(good, text[at]) < 0 || strings.IndexByte(good, s[at]) < 0 || at < len(head) {
					t.Errorf("%s, %s: read", x.what, what)
				}
			}
		})
		if (right == 0) != (len(x.l) == 0) {
			t.Errorf("%s: %d texts are read", x.what, right)
		}
	}
}

func TestLinesTooManyOrTooFew(t *testing.T) {
	for _, n := range []int{0, 1, 2, 99, 100, 101, 200, 201} {
		s := written(t, fmt.Sprint(n, " pairs"), some(n))
		all := strings.SplitAfter(s, "\n")
		all = all[:len(all)-1]
		lastPair := len(all) - 5
		for i := range all {
			what := fmt.Sprint(n, " pairs, line ", i, ", ", all[i])
			without := func(more ...string) string {
				return strings.Join(all[:i], "") + strings.Join(more, "") + strings.Join(all[i+1:], "")
			}
			unread(t, what+" is left out", without())
			unread(t, what+" is there twice", without(all[i], all[i]))
			for _, more := range []string{"\n", " \n", "%\n", "end\n", "endcmap\n", "endbfchar\n", "1 beginbfchar\n", "0 beginbfchar\n", "0 beginbfchar\nendbfchar\n", "<0000> <0041>\n", "<ffff> <0041>\n", head, tail} {
				unread(t, what+", one more ahead of it, "+more, without(more, all[i]))
				// A pair may stand for another one, if glyphs still rise.
				if more != all[i] && either(t, what+" is "+more, without(more)) != (n > 0 && i == 9 && more == "<0000> <0041>\n" || n > 0 && i == lastPair && more == "<ffff> <0041>\n") {
					t.Errorf("%s is %s", what, more)
				}
			}
			unread(t, what+" has a blank behind it", without(strings.TrimSuffix(all[i], "\n")+" \n"))
			unread(t, what+" has a blank ahead of it", without(" "+all[i]))
			unread(t, what+" ends otherwise", without(strings.TrimSuffix(all[i], "\n")+"\r\n"))
			unread(t, what+" ends with another byte", without(strings.TrimSuffix(all[i], "\n")+"\r"))
			unread(t, what+" is the end", strings.Join(all[:i+1], "")+"\n")
			if i+1 < len(all) {
				unread(t, what+" is the last one", strings.Join(all[:i+1], ""))
				if all[i] != all[i+1] {
					unread(t, what+" changes places with the next", strings.Join(all[:i], "")+all[i+1]+all[i]+strings.Join(all[i+2:], ""))
				}
			}
		}
		for _, more := range []string{"\n", " ", "\x00", "a", "end", "end\n", tail, head, s, "%", "\r"} {
			unread(t, fmt.Sprint(n, " pairs, behind the end ", more), s+more)
			unread(t, fmt.Sprint(n, " pairs, ahead of the beginning ", more), more+s)
		}
		for i := range len(s) {
			if _, err := unimap.Read(s[:i]); err != api.ErrUni {
				t.Errorf("%d pairs, cut at %d: %v", n, i, err)
			}
			if _, err := unimap.Read(s[i+1:]); err != api.ErrUni {
				t.Errorf("%d pairs, without %d bytes: %v", n, i+1, err)
			}
		}
	}
}

func TestOtherDigits(t *testing.T) {
	s := written(t, "letters", pairs(0xabcd, 0xefab, 0xcdef, 0xabcde))
	unread(t, "all capital", head+strings.ToUpper(strings.TrimPrefix(s, head)))
	for _, x := range []string{"a", "b", "c", "d", "e", "f"} {
		for i := range strings.Count(s, x) {
			text := strings.Replace(strings.Replace(s, x, "?", i), x, strings.ToUpper(x), 1)
			unread(t, fmt.Sprint("capital ", x, ", number ", i), strings.Replace(text, "?", x, i))
		}
	}
	for _, line := range []string{
		"", "<", ">", "<>", "<> <>", "<0001>", "<0001> ", "<0001> <", "<0001> <>", "<> <0061>", "<001> <0061>", "<01> <0061>", "<00001> <0061>", "<000001> <0061>", "<00000001> <0061>",
		"<0001> <061>", "<0001> <61>", "<0001> <00061>", "<0001> <000061>", "<0001> <0000061>", "<0001> <00000061>", "<0001> <d83dde0>", "<0001> <d83dde000>", "<0001> <d83dde0000>", "<0001> <d83dde00d83dde00>", "<0001> <006100620063>",
		"<0001><0061>", "<0001>  <0061>", "<0001>\t<0061>", "<0001> <0061> ", " <0001> <0061>", "<0001> <0061>>", "<<0001> <0061>", "<<0001>> <<0061>>", "<<<0001> <0061>>>", "<0001 <0061>", "<0001> 0061>", "0001> <0061>", "<0001> <0061", "0001> <0061", "<0001>> <0061>", "<0001> <<0061>", ">0001> <0061<", "<0001> <00 61>", "< 001> <0061>",
		"<0001> <0061> <0062>", "<0001> <0001> <0061>", "<0001> <0061>\n", "<0001> <0061>\r", "<+001> <0061>", "<-001> <0061>", "<0x01> <0061>", "<0_01> <0061>", "<0001> <+061>", "<0001> <0x61>", "<0001> <6_61>", "<0001> <006g>", "<0001> <00\x0061>", "<000\xef\xbc\x91> <0061>",
		"<0001> <d800>", "<0001> <dbff>", "<0001> <dc00>", "<0001> <dfff>", "<0001> <d8000061>", "<0001> <d800d800>", "<0001> <dc00d800>", "<0001> <dc00dc00>", "<0001> <0061dc00>", "<0001> <00610062>", "<0001> <feff0061>", "<0001> <d800e000>", "<0001> <dbffdbff>",
		"<0001> <0061>%", "(\x00\x01) <0061>", "1 97", "0001 0061", "[0001] [0061]", "endbfchar",
	} {
		unread(t, "the line "+line, whole(block(line)))
		unread(t, "the line "+line+" behind another", whole(block("<0000> <0061>", line)))
		unread(t, "the line "+line+" ahead of another", whole(block(line, "<0002> <0061>")))
	}
	for _, line := range []string{"<0001> <0061>", "<0001> <feff>", "<0001> <fffe>", "<ffff> <0000>", "<0001> <d800dc00>", "<0001> <dbffdfff>"} {
		if !either(t, "the line "+line, whole(block(line))) {
			t.Errorf("%s: not read", line)
		}
	}
}

func TestOtherNumbersAhead(t *testing.T) {
	for _, n := range []int{1, 2, 10, 99, 100, 101, 200, 201} {
		s := written(t, fmt.Sprint(n, " pairs"), some(n))
		for _, was := range []int{100, (n-1)%100 + 1} {
			old := fmt.Sprint("\n", was, " beginbfchar\n")
			for _, now := range []string{"", " ", "0", "1", "2", "9", "11", "98", "99", "100", "101", "102", "200", "201", "256", "4096", "4294967297", "18446744073709551617", "-1", "+1", "+100", "01", "0100", "1.0", "1e2", "100 ", " 100", "0x64", "1_00", "one", "99999999999999999999", fmt.Sprint(was - 1), fmt.Sprint(was + 1), fmt.Sprint("0", was), fmt.Sprint("+", was), fmt.Sprint(-was), fmt.Sprint(was, " 0"), fmt.Sprintf("%x", was) + "h"} {
				if now == fmt.Sprint(was) {
					continue
				}
				what := fmt.Sprint(n, " pairs, for ", was, " ", now)
				if strings.Contains(s, old) {
					unread(t, what, strings.Replace(s, old, "\n"+now+" beginbfchar\n", 1))
				}
				if i := strings.LastIndex(s, old); i >= 0 {
					unread(t, what+", the last", s[:i]+"\n"+now+" beginbfchar\n"+s[i+len(old):])
				}
			}
			for _, now := range []string{"beginbfchar", " beginbfchar", "  beginbfchar", " beginbfrange", " endbfchar", " BeginBfChar", " beginbfchar ", "\tbeginbfchar", " begin bfchar"} {
				if now != " beginbfchar" && strings.Contains(s, old) {
					unread(t, fmt.Sprint(n, " pairs, with ", now), strings.Replace(s, old, fmt.Sprint("\n", was, now, "\n"), 1))
				}
			}
		}
	}
}

// parted is the text of a list whose pairs stand together in such numbers.
func parted(l []api.Pair, counts ...int) string {
	var blocks []string
	for _, n := range counts {
		var lines []string
		for _, p := range l[:n] {
			lines = append(lines, modelLine(p))
		}
		l = l[n:]
		if n == 0 {
			blocks = append(blocks, "0 beginbfchar\nendbfchar\n")
		} else {
			blocks = append(blocks, block(lines...))
		}
	}
	return whole(blocks...)
}

func TestHundredsPartedOtherwise(t *testing.T) {
	for _, x := range [][]int{
		{0}, {0, 0}, {0, 1}, {1, 0}, {1, 1}, {2, 1}, {1, 2}, {99, 1}, {1, 99}, {50, 50}, {100, 0}, {0, 100}, {101}, {99, 2}, {2, 99}, {1, 100}, {100, 1, 0}, {100, 0, 1}, {100, 1, 1},
		{99, 100}, {101, 99}, {200}, {99, 101}, {100, 99, 1}, {100, 50, 50}, {50, 100, 50}, {100, 100, 0}, {100, 101}, {101, 100}, {1, 100, 100}, {100, 1, 100}, {100, 99, 2}, {250}, {256},
	} {
		n := 0
		for _, count := range x {
			n += count
		}
		unread(t, fmt.Sprint(x), parted(some(n), x...))
	}
	for _, x := range [][]int{nil, {1}, {99}, {100}, {100, 1}, {100, 99}, {100, 100}, {100, 100, 1}} {
		n := 0
		for _, count := range x {
			n += count
		}
		if !either(t, fmt.Sprint(x), parted(some(n), x...)) {
			t.Errorf("%v: not read", x)
		}
	}
}

// Texts that have the right form, but are of lists that have none.
func TestTextsOfListsWithoutOne(t *testing.T) {
	unread(t, "alike", parted(pairs(1, 97, 1, 98), 2))
	unread(t, "alike in both", parted(pairs(1, 97, 1, 97), 2))
	unread(t, "alike, 0", parted(pairs(0, 97, 0, 97), 2))
	unread(t, "falling", parted(pairs(2, 97, 1, 98), 2))
	unread(t, "falling at the end", parted(pairs(1, 97, 2, 97, 5, 97, 4, 97), 4))
	for _, at := range []int{1, 99, 100, 101, 199, 200} {
		l := some(201)
		l[at].Glyph = l[at-1].Glyph
		unread(t, fmt.Sprint("a glyph twice at ", at), parted(l, 100, 100, 1))
		l[at].Glyph = 0
		unread(t, fmt.Sprint("0 at ", at), parted(l, 100, 100, 1))
	}
	for _, n := range []int{4097, 4098, 4100, 4101, 4200, 5000, 65536} {
		var l []api.Pair
		for i := range n {
			l = append(l, api.Pair{Glyph: i, Code: 97})
		}
		counts := slices.Repeat([]int{100}, n/100)
		if n%100 > 0 {
			counts = append(counts, n%100)
		}
		unread(t, fmt.Sprint(n, " pairs"), parted(l, counts...))
	}
}

func TestOtherTexts(t *testing.T) {
	one := whole(block("<0001> <0061>"))
	for _, s := range []string{
		"", "\n", " ", "\x00", "a", head, tail, head + head + tail, head + tail + tail, tail + head, "<0001> <0061>", block("<0001> <0061>"), head + block("<0001> <0061>"), block("<0001> <0061>") + tail,
		head[:len(head)-1] + tail, head + tail[:len(tail)-1], head + "endcmap\nend\n", head + "end\nend\n", head + "endcmap\nend\nend\nend\n", head + "endcmap end end\n",
		strings.ReplaceAll(one, "\n", "\r"), strings.ReplaceAll(one, "\n", "\r\n"), strings.ReplaceAll(one, "\n", " "), strings.ReplaceAll(one, "\n", "\n\n"), strings.ReplaceAll(one, " ", "  "), strings.ReplaceAll(one, " ", "\t"), strings.ToUpper(one), strings.ToLower(one), strings.TrimSpace(one), one + one, "\xef\xbb\xbf" + one, "%!PS\n" + one,
		strings.Replace(one, "/U", "/V", 1), strings.Replace(one, "Type 2", "Type 1", 1), strings.Replace(one, "12 dict", "13 dict", 1), strings.Replace(one, "<ffff>", "<FFFF>", 1), strings.Replace(one, "<ffff>", "<fffe>", 1), strings.Replace(one, "1 begincode", "2 begincode", 1),
		head + "1 beginbfchar\n", head + "1 beginbfchar", head + "1 beginbfchar\n<0001> <0061>", head + "1 beginbfchar\n<0001> <0061>\n", head + "1 beginbfchar\n<0001> <0061>\nendbfchar", head + "1 beginbfchar\n<0001> <0061>\nendbfchar\n", head + "1 beginbfchar\n<0001> <0061>\n" + tail, head + "1 beginbfrange\n<0001> <0001> <0061>\nendbfrange\n" + tail,
		strings.Repeat("<0001> <0061>\n", 100000), head + strings.Repeat("0", 1<<20) + tail, head + "1 beginbfchar\n<0001> <" + strings.Repeat("0061", 1<<18) + ">\nendbfchar\n" + tail, head + "1 beginbfchar\n" + strings.Repeat("<", 1<<20) + "0001> <0061>\nendbfchar\n" + tail,
	} {
		unread(t, "another text", s)
	}
}

// Texts as if by chance, made of lines that stand in right ones.
func TestManyOtherTexts(t *testing.T) {
	pieces := []string{"1 beginbfchar\n", "2 beginbfchar\n", "<0001> <0061>\n", "<0002> <d800dc00>\n", "<0003> <0062>\n", "endbfchar\n", "endbfchar\n", "", "\n"}
	read := 0
	for seed := range 60000 {
		next := numbers(seed)
		s := head
		for range next(7) {
			s += pieces[next(len(pieces))]
		}
		if either(t, fmt.Sprint("seed ", seed), s+tail) {
			read++
		}
	}
	if read < 100 {
		t.Errorf("only %d texts were read", read)
	}
}
