package interp

import (
	"strconv"
	"strings"

	"colophon/digits"
)

// Kinds of operands.
const (
	kindNumber = iota
	kindFont
	kindGlyphs
)

const (
	lastFont    = 99
	glyphDigits = 4 // that a glyph is written with
)

type operand struct {
	kind   int
	value  int // of a number or a font
	glyphs []int
}

// read is a word that is no operator.
func read(word string) operand {
	if x, ok := digits.Parse(word); ok {
		return operand{kind: kindNumber, value: x}
	}
	if number, ok := strings.CutPrefix(word, "/F"); ok {
		return operand{kind: kindFont, value: font(number)}
	}
	return operand{kind: kindGlyphs, glyphs: glyphs(word)}
}

// font is the number that digits say. There is one way to write each: what is
// written in any other comes back as another text.
func font(number string) int {
	x, err := strconv.Atoi(number)
	must(err == nil && x >= 0 && x <= lastFont && strconv.Itoa(x) == number)
	return x
}

func glyphs(word string) []int {
	inner, begun := strings.CutPrefix(word, "<")
	inner, ended := strings.CutSuffix(inner, ">")
	must(begun && ended && inner != "" && len(inner)%glyphDigits == 0)
	l := make([]int, len(inner)/glyphDigits)
	for i := range l {
		x, err := strconv.ParseUint(inner[i*glyphDigits:(i+1)*glyphDigits], 16, 16)
		must(err == nil)
		l[i] = int(x)
	}
	return l
}

// none gives up, if there are operands.
func none(given []operand) { must(len(given) == 0) }

// numbers are the operands, if they are so many numbers.
func numbers(given []operand, many int) []int {
	must(len(given) == many)
	l := make([]int, many)
	for i, o := range given {
		must(o.kind == kindNumber)
		l[i] = o.value
	}
	return l
}
