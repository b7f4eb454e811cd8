package sheet

import (
	"strings"

	"colophon/api"
)

const (
	blankBytes = "\t\n\r "
	// What a property's name, and a value, go up to: what may stand behind them.
	behindName  = blankBytes + ":"
	behindValue = blankBytes + ";}"
)

// mostName is how many bytes a name has at most.
const mostName = 16

// reader goes through a sheet.
type reader struct {
	rest    string // what is not read yet
	readers map[string]func(text string) api.Decl
}

// must gives up the rule that is read, unless all is well.
func must(well bool) {
	if !well {
		panic(api.ErrSheet)
	}
}

// rule reads one.
func (r *reader) rule() (rule api.Rule, ok bool) {
	defer func() {
		if recover() != nil {
			rule, ok = api.Rule{}, false
		}
	}()
	return api.Rule{Selectors: r.selectors(), Decls: r.decls()}, true
}

// selectors reads those of a rule, and its {.
func (r *reader) selectors() []api.Selector {
	var l []api.Selector
	for {
		must(len(l) < api.MaxFew)
		l = append(l, api.Selector{Parts: r.parts()})
		if !r.takes(',') {
			must(r.takes('{'))
			return l
		}
		r.blanks()
	}
}

// parts reads those of a selector, and the blanks behind it.
func (r *reader) parts() []api.Part {
	var l []api.Part
	child := false
	for {
		must(len(l) < api.MaxFew)
		p := r.part()
		p.Child = child
		l = append(l, p)
		apart := r.blanks()
		child = r.takes('>')
		if child {
			r.blanks()
		} else if !apart || r.is(",{") {
			return l
		}
	}
}

func (r *reader) part() api.Part {
	whole := r.rest
	var p api.Part
	if !r.takes('*') && r.run() != "" {
		p.Name = r.name()
	}
	for {
		if r.takes('.') {
			must(len(p.Classes) < api.MaxFew)
			p.Classes = append(p.Classes, r.name())
		} else if r.takes('#') {
			must(p.Id == "")
			p.Id = r.name()
		} else {
			must(len(r.rest) < len(whole))
			return p
		}
	}
}

// decls reads the declarations of a rule, and its }.
func (r *reader) decls() []api.Decl {
	var l []api.Decl
	r.blanks()
	for !r.takes('}') {
		must(len(l) < api.MaxFew)
		l = append(l, r.decl())
		r.blanks()
		if !r.takes(';') {
			must(r.takes('}'))
			break
		}
		r.blanks()
	}
	return l
}

func (r *reader) decl() api.Decl {
	read, ok := r.readers[r.upTo(behindName)]
	must(ok)
	r.blanks()
	must(r.takes(':'))
	r.blanks()
	return read(r.upTo(behindValue))
}

// name reads one. It is new memory, and keeps the sheet out of what is told.
func (r *reader) name() string {
	s := r.run()
	must(isName(s))
	r.rest = r.rest[len(s):]
	return strings.Clone(s)
}

// run is what stands ahead that may be in a name, as long as it goes.
func (r *reader) run() string {
	return r.rest[:len(r.rest)-len(strings.TrimLeftFunc(r.rest, inName))]
}

// upTo reads what stands ahead of the first of some bytes, or all.
func (r *reader) upTo(behind string) string {
	end := strings.IndexAny(r.rest, behind)
	if end < 0 {
		end = len(r.rest)
	}
	s := r.rest[:end]
	r.rest = r.rest[end:]
	return s
}

// blanks reads those that stand ahead, and tells whether there are any.
func (r *reader) blanks() bool {
	whole := r.rest
	r.rest = strings.TrimLeft(whole, blankBytes)
	return len(r.rest) < len(whole)
}

// is tells whether one of some bytes stands ahead.
func (r *reader) is(bytes string) bool {
	return r.rest != "" && strings.IndexByte(bytes, r.rest[0]) >= 0
}

// takes reads a byte, if it stands ahead.
func (r *reader) takes(b byte) bool {
	if r.rest == "" || r.rest[0] != b {
		return false
	}
	r.rest = r.rest[1:]
	return true
}

// isName tells whether a text is a name, as tags have them.
func isName(s string) bool {
	if s == "" || len(s) > mostName || s[0] < 'a' || s[0] > 'z' {
		return false
	}
	return strings.TrimLeftFunc(s, inName) == ""
}

func inName(c rune) bool { return c >= 'a' && c <= 'z' || c >= '0' && c <= '9' || c == '-' }
