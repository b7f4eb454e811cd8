package unimap

import (
	"slices"
	"strconv"
	"strings"

	"colophon/api"
	"colophon/utf"
)

const (
	most       = 100 // pairs that stand together
	pairsBegin = " beginbfchar"
	pairsEnd   = "endbfchar"
	lastGlyph  = 0xffff
	digits     = "0123456789abcdef"
	mark       = "\xfe\xff" // stands ahead of what package utf writes and reads
)

// Write is the text that maps glyphs to code points.
func Write(l []api.Pair) (string, api.Errno) {
	if !may(l) {
		return "", api.ErrUni
	}
	var text strings.Builder
	text.WriteString(opening())
	for some := range slices.Chunk(l, most) {
		text.WriteString(lines(strconv.Itoa(len(some)) + pairsBegin))
		for _, p := range some {
			text.WriteString(lines(lineOf(p)))
		}
		text.WriteString(lines(pairsEnd))
	}
	text.WriteString(closing())
	return text.String(), api.OK
}

// Read reads it. There is one way to write each list, so nothing is passed over.
func Read(s string) ([]api.Pair, api.Errno) {
	var (
		l    []api.Pair
		p    api.Pair
		line string
		left int
	)
	rest, ok := strings.CutPrefix(s, opening())
	if !ok {
		goto wrong
	}

between:
	if rest == closing() {
		goto end
	}
	// Only the last ones may be less than a hundred. However much follows, no
	// more is gathered once there are too many.
	if len(l)%most != 0 || len(l) > api.MaxGlyphs {
		goto wrong
	}
	line, rest, _ = strings.Cut(rest, "\n")
	if left, ok = countOf(line); !ok {
		goto wrong
	}

within:
	// Where no line feed is left, rest is empty from now on: that is no end.
	line, rest, _ = strings.Cut(rest, "\n")
	if left == 0 {
		goto behind
	}
	if p, ok = pairOf(line); !ok {
		goto wrong
	}
	l = append(l, p)
	left--
	goto within

behind:
	if line != pairsEnd {
		goto wrong
	}
	goto between

end:
	if may(l) {
		return l, api.OK
	}

wrong:
	return nil, api.ErrUni
}

// may tells whether there is a text for a list.
func may(l []api.Pair) bool {
	if len(l) > api.MaxGlyphs {
		return false
	}
	ahead := -1
	for _, p := range l {
		if p.Glyph <= ahead || p.Glyph > lastGlyph || utf.Class(p.Code) == api.ClassNone {
			return false
		}
		ahead = p.Glyph
	}
	return true
}

func opening() string {
	return lines(
		"/CIDInit /ProcSet findresource begin",
		"12 dict begin",
		"begincmap",
		"/CMapName /U def",
		"/CMapType 2 def",
		"1 begincodespacerange",
		"<0000> <ffff>",
		"endcodespacerange",
	)
}

func closing() string { return lines("endcmap", "end", "end") }

// lines are texts with a line feed behind each.
func lines(texts ...string) string {
	var all strings.Builder
	for _, text := range texts {
		all.WriteString(text)
		all.WriteByte('\n')
	}
	return all.String()
}

// lineOf is the line of a pair that may be.
func lineOf(p api.Pair) string {
	wide, _ := utf.Wide([]int{p.Code}) // it is a code point
	glyph := string([]byte{byte(p.Glyph >> 8), byte(p.Glyph)})
	return "<" + digitsOf(glyph) + "> <" + digitsOf(wide[len(mark):]) + ">"
}

// pairOf is the pair of which a text is the line. Only the digits are looked at
// here: if anything beside them is not as it should be, the pair comes back as
// another line.
func pairOf(line string) (api.Pair, bool) {
	before, behind, _ := strings.Cut(strings.Trim(line, "<>"), "> <")
	glyph := bytesOf(before)
	points, _, _ := utf.Narrow(mark + bytesOf(behind))
	if len(glyph) != 2 || len(points) != 1 {
		return api.Pair{}, false
	}
	p := api.Pair{Glyph: int(glyph[0])<<8 | int(glyph[1]), Code: points[0]}
	return p, lineOf(p) == line
}

// countOf tells how many pairs a line says that follow. There is one way to
// write each number: what is written in any other comes back as another text.
func countOf(line string) (int, bool) {
	text, ok := strings.CutSuffix(line, pairsBegin)
	count, err := strconv.Atoi(text)
	return count, ok && err == nil && count >= 1 && count <= most && strconv.Itoa(count) == text
}

// digitsOf are two digits for each byte.
func digitsOf(s string) string {
	var text []byte
	for i := range len(s) {
		text = append(text, digits[s[i]>>4], digits[s[i]&15])
	}
	return string(text)
}

// bytesOf are the bytes of which a text is the digits: none, if it is not.
func bytesOf(text string) string {
	if len(text)%2 != 0 {
		return ""
	}
	all := make([]byte, len(text)/2)
	for i := range all {
		high, low := strings.IndexByte(digits, text[2*i]), strings.IndexByte(digits, text[2*i+1])
		if high < 0 || low < 0 {
			return ""
		}
		all[i] = byte(high<<4 | low)
	}
	return string(all)
}
