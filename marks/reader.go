package marks

import (
	"strings"

	"colophon/api"
)

// token is the one with which a text begins, and how many bytes it takes. If
// there is none, the number is how far behind the beginning the fault stands.
func token(s string) (api.Token, int, bool) {
	if s[0] == '<' {
		return tag(s)
	}
	to := strings.IndexByte(s, '<')
	if to < 0 {
		to = len(s)
	}
	text, at, ok := plain(s[:to])
	if !ok {
		return api.Token{}, at, false
	}
	return api.Token{Kind: api.TokText, Text: text}, to, true
}

// tag is the one with which a text begins, and how many bytes it takes. Whatever
// is wrong in it is told at its beginning, so the readers of its parts need not
// hand on where they are when they give up.
func tag(s string) (t api.Token, size int, ok bool) {
	defer func() {
		if recover() != nil {
			t, size, ok = api.Token{}, 0, false
		}
	}()
	r := reader{rest: s}
	must(r.take("<"))
	if r.take("/") {
		t = r.closing()
	} else {
		t = r.opening()
	}
	return t, len(s) - len(r.rest), true
}

// must gives up a tag, unless all is well in it.
func must(well bool) {
	if !well {
		panic(api.ErrToken)
	}
}

// reader goes through a tag.
type reader struct{ rest string }

// take passes over just these bytes, if they stand here.
func (r *reader) take(s string) bool {
	rest, ok := strings.CutPrefix(r.rest, s)
	r.rest = rest
	return ok
}

// blanks passes over those that stand here, and tells whether there are any.
func (r *reader) blanks() bool {
	rest := strings.TrimLeft(r.rest, "\t\n\r ")
	some := len(rest) < len(r.rest)
	r.rest = rest
	return some
}

// name takes as many bytes as may be of one: nothing that may stand behind a
// name could be of it.
func (r *reader) name() string {
	size := 0
	for size < len(r.rest) && ofName(r.rest[size]) {
		size++
	}
	name := r.rest[:size]
	must(isName(name))
	r.rest = r.rest[size:]
	return strings.Clone(name)
}

// closing is what stands behind </.
func (r *reader) closing() api.Token {
	t := api.Token{Kind: api.TokClose, Name: r.name()}
	r.blanks()
	must(r.take(">"))
	return t
}

// opening is what stands behind the < of a tag that opens, or is empty.
func (r *reader) opening() api.Token {
	t := api.Token{Name: r.name()}
	for {
		apart := r.blanks()
		switch {
		case r.take(">"):
			t.Kind = api.TokOpen
			return t
		case r.take("/>"):
			t.Kind = api.TokEmpty
			return t
		}
		must(apart && len(t.Attrs) < api.MaxAttrs)
		a := r.attribute()
		must(!named(t.Attrs, a.Name))
		t.Attrs = append(t.Attrs, a)
	}
}

func (r *reader) attribute() api.Attr {
	a := api.Attr{Name: r.name()}
	r.blanks()
	must(r.take("="))
	r.blanks()
	must(r.take("\""))
	value, rest, ended := strings.Cut(r.rest, "\"")
	must(ended && strings.IndexByte(value, '<') < 0)
	value, _, ok := plain(value)
	must(ok)
	a.Value = value
	r.rest = rest
	return a
}
