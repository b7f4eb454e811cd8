package marks

import (
	"strings"
	"unicode/utf8"

	"colophon/api"
)

// areTokens tells whether a list could be Scan's, but for places and lengths. Of
// two texts side by side Scan would make one.
func areTokens(l []api.Token) bool {
	for i, t := range l {
		if !isToken(t) || i > 0 && t.Kind == api.TokText && l[i-1].Kind == api.TokText {
			return false
		}
	}
	return true
}

func isToken(t api.Token) bool {
	switch t.Kind {
	case api.TokText:
		return t.Name == "" && len(t.Attrs) == 0 && t.Text != "" && isPlain(t.Text)
	case api.TokClose:
		return isName(t.Name) && len(t.Attrs) == 0 && t.Text == ""
	case api.TokOpen, api.TokEmpty:
		return isName(t.Name) && areAttrs(t.Attrs) && t.Text == ""
	}
	return false
}

func areAttrs(l []api.Attr) bool {
	if len(l) > api.MaxAttrs {
		return false
	}
	for i, a := range l {
		if !isName(a.Name) || named(l[:i], a.Name) || !isPlain(a.Value) {
			return false
		}
	}
	return true
}

// isPlain tells whether Escape has an answer.
func isPlain(s string) bool { return utf8.ValidString(s) && !hasControl(s) }

// size is how many bytes a token's names, values and text have.
func size(t api.Token) int {
	n := len(t.Name) + len(t.Text)
	for _, a := range t.Attrs {
		n += len(a.Name) + len(a.Value)
	}
	return n
}

func write(text *strings.Builder, t api.Token) {
	if t.Kind == api.TokText {
		escape(text, t.Text)
		return
	}
	text.WriteString("<")
	if t.Kind == api.TokClose {
		text.WriteString("/")
	}
	text.WriteString(t.Name)
	for _, a := range t.Attrs {
		text.WriteString(" " + a.Name + "=\"")
		escape(text, a.Value)
		text.WriteString("\"")
	}
	if t.Kind == api.TokEmpty {
		text.WriteString("/")
	}
	text.WriteString(">")
}

// escape writes each character that could end a text or a value, or begin an
// entity, as an entity.
func escape(text *strings.Builder, s string) {
	for _, r := range s {
		switch r {
		case '<':
			text.WriteString("&lt;")
		case '>':
			text.WriteString("&gt;")
		case '&':
			text.WriteString("&amp;")
		case '"':
			text.WriteString("&quot;")
		default:
			text.WriteRune(r)
		}
	}
}
