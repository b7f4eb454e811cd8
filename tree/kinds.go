package tree

import (
	"strconv"
	"strings"

	"colophon/api"
)

const (
	blanks      = "\t\n\r "
	longestName = 16
)

// kind is what may stand in an element, and at it.
type kind struct {
	kids   []string
	texts  bool // whether texts may stand in it, blank ones too
	spaced bool // whether texts of blanks alone are left out of it
	filled bool // whether something has to stand in it
	attrs  []string
}

// kinds are those of all elements, by their names.
func kinds() map[string]kind {
	words := []string{"b", "i", "span", "a"}
	plain := kind{kids: words, texts: true, attrs: []string{"id", "class"}}
	return map[string]kind{
		"doc": {
			kids:   []string{"sheet", "h1", "h2", "h3", "p", "table", "break"},
			spaced: true,
			attrs:  []string{"id", "class"},
		},
		"sheet": {texts: true},
		"h1":    plain,
		"h2":    plain,
		"h3":    plain,
		"p":     plain,
		"table": {kids: []string{"row"}, spaced: true, filled: true, attrs: []string{"id", "class"}},
		"row":   {kids: []string{"cell"}, spaced: true, filled: true, attrs: []string{"id", "class", "head"}},
		"cell":  {kids: words, texts: true, attrs: []string{"id", "class", "cols", "rows"}},
		"break": {},
		"b":     plain,
		"i":     plain,
		"span":  plain,
		"a":     {kids: words, texts: true, attrs: []string{"id", "class", "to"}},
	}
}

// may tells whether an attribute may have its value, whatever element it is of.
func may(a api.Attr) bool {
	switch a.Name {
	case "class":
		return areNames(a.Value)
	case "head":
		return a.Value == "yes"
	case "cols":
		return isNumber(a.Value, api.MaxCols)
	case "rows":
		return isNumber(a.Value, api.MaxRows)
	}
	return isName(a.Value)
}

// areNames tells whether a text is names with one blank between two.
func areNames(s string) bool {
	for name := range strings.SplitSeq(s, " ") {
		if !isName(name) {
			return false
		}
	}
	return true
}

func isName(s string) bool {
	if s == "" || len(s) > longestName || !isSmall(s[0]) {
		return false
	}
	for i := range len(s) {
		if !isSmall(s[i]) && !isDigit(s[i]) && s[i] != '-' {
			return false
		}
	}
	return true
}

func isSmall(b byte) bool { return b >= 'a' && b <= 'z' }

func isDigit(b byte) bool { return b >= '0' && b <= '9' }

// isNumber tells whether a text is a number from 1 up to the greatest, without
// noughts ahead.
func isNumber(s string, greatest int) bool {
	for n := range greatest {
		if s == strconv.Itoa(n+1) {
			return true
		}
	}
	return false
}

func isBlank(s string) bool { return strings.Trim(s, blanks) == "" }
