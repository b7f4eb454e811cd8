package marks

import (
	"strings"

	"colophon/api"
	"colophon/utf"
)

const (
	longestName  = 16
	longestPoint = 7 // digits of the greatest code point
)

// plain is a text or a value with the characters that its entities say, or the
// place of the first fault.
func plain(s string) (string, int, bool) {
	var text strings.Builder
	open := -1 // where the entity begins that is being gone through, if one is
	for at, r := range s {
		switch {
		case open >= 0 && r == ';':
			said, ok := entity(s[open+1 : at])
			if !ok {
				return "", open, false
			}
			text.WriteRune(said)
			open = -1
		case open >= 0:
			// It ends with the first ; and whatever it has ahead of that is asked there.
		case r == '&':
			open = at
		case isControl(r):
			return "", at, false
		default:
			text.WriteRune(r)
		}
	}
	if open >= 0 {
		return "", open, false
	}
	return text.String(), 0, true
}

// entity is the character that is said by what stands between & and ;.
func entity(s string) (rune, bool) {
	switch s {
	case "lt":
		return '<', true
	case "gt":
		return '>', true
	case "amp":
		return '&', true
	case "quot":
		return '"', true
	}
	number, ok := strings.CutPrefix(s, "#")
	if !ok {
		return 0, false
	}
	return numbered(number)
}

// numbered is the character of a number, if a text may have it: 0 is out as the
// control character that it is.
func numbered(s string) (rune, bool) {
	if s == "" || s[0] == '0' || len(s) > longestPoint {
		return 0, false
	}
	c := 0
	for i := range len(s) {
		if s[i] < '0' || s[i] > '9' {
			return 0, false
		}
		c = 10*c + int(s[i]-'0')
	}
	// A number is asked for what it is ahead of a rune being made of it.
	if class := utf.Class(c); class == api.ClassNone || class == api.ClassControl {
		return 0, false
	}
	return rune(c), true
}

func isControl(r rune) bool { return utf.Class(int(r)) == api.ClassControl }

func hasControl(s string) bool { return strings.IndexFunc(s, isControl) >= 0 }

func isName(s string) bool {
	if s == "" || len(s) > longestName || !isSmall(s[0]) {
		return false
	}
	for i := range len(s) {
		if !ofName(s[i]) {
			return false
		}
	}
	return true
}

// ofName tells whether a byte may stand in a name behind its first one.
func ofName(b byte) bool { return isSmall(b) || b >= '0' && b <= '9' || b == '-' }

func isSmall(b byte) bool { return b >= 'a' && b <= 'z' }

// named tells whether one of these has that name.
func named(l []api.Attr, name string) bool {
	for _, a := range l {
		if a.Name == name {
			return true
		}
	}
	return false
}
