package sheet

import (
	"slices"
	"strings"

	"colophon/api"
	"colophon/digits"
)

// property is one that may be declared: its number, its name and its values.
type property struct {
	prop   int
	name   string
	values values
}

// values are those that a property may have, as texts and as numbers.
type values interface {
	number(text string) (int, bool)
	text(number int) (string, bool)
}

// properties are all that there are, by their numbers.
func properties() []property {
	noughtToNine := strings.Split("0123456789", "")
	noOrYes := words{"no", "yes"}
	return []property{
		{api.PropFont, "font", words(noughtToNine)},
		{api.PropSize, "size", lengths{least: api.One}},
		{api.PropLeading, "leading", lengths{least: api.One}},
		{api.PropAlign, "align", words{"justify", "left", "right", "center"}},
		{api.PropIndent, "indent", lengths{least: 0}},
		{api.PropAbove, "above", lengths{least: 0}},
		{api.PropBelow, "below", lengths{least: 0}},
		{api.PropKeep, "keep", noOrYes},
		{api.PropHyphens, "hyphens", noOrYes},
	}
}

// readers are what reads the properties' values, by the properties' names.
func readers() map[string]func(text string) api.Decl {
	m := map[string]func(text string) api.Decl{}
	for _, p := range properties() {
		m[p.name] = p.read
	}
	return m
}

// read is what a text declares. It gives up if it is none of the values.
func (p property) read(text string) api.Decl {
	x, ok := p.values.number(text)
	must(ok)
	return api.Decl{Prop: p.prop, Value: x}
}

// words are values that stand for the numbers from 0 on.
type words []string

func (w words) number(text string) (int, bool) {
	x := slices.Index(w, text)
	return x, x >= 0
}

func (w words) text(number int) (string, bool) {
	if number < 0 || number >= len(w) {
		return "", false
	}
	return w[number], true
}

// mostLength is the greatest length that any property may have.
const mostLength = 1000 * api.One

// lengths are values from a least one on.
type lengths struct{ least int }

func (l lengths) number(text string) (int, bool) {
	points, ok := strings.CutSuffix(text, "pt")
	x, err := digits.Near(points)
	return x, ok && err == api.OK && l.have(x)
}

func (l lengths) text(number int) (string, bool) {
	points, ok := digits.Text(number)
	return points + "pt", ok && l.have(number)
}

func (l lengths) have(x int) bool { return l.least <= x && x <= mostLength }
