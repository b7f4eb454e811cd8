package sheet

import (
	"strings"

	"colophon/api"
)

// writer writes rules, if they are good.
type writer struct {
	text       strings.Builder
	properties []property
}

// good tells whether a sheet may have such rules.
func (w *writer) good(l []api.Rule) bool {
	if len(l) > api.MaxRules {
		return false
	}
	return every(l, w.goodRule)
}

func (w *writer) goodRule(r api.Rule) bool {
	return isSome(len(r.Selectors)) && every(r.Selectors, goodSelector) && len(r.Decls) <= api.MaxFew && every(r.Decls, w.goodDecl)
}

func goodSelector(x api.Selector) bool {
	return isSome(len(x.Parts)) && !x.Parts[0].Child && every(x.Parts, goodPart)
}

func goodPart(p api.Part) bool {
	return (p.Name == "" || isName(p.Name)) && (p.Id == "" || isName(p.Id)) && len(p.Classes) <= api.MaxFew && every(p.Classes, isName)
}

func (w *writer) goodDecl(d api.Decl) bool {
	_, ok := w.value(d)
	return ok
}

// isSome tells whether there may be so many of what there must be one of.
func isSome(n int) bool { return 1 <= n && n <= api.MaxFew }

func every[T any](l []T, good func(T) bool) bool {
	for _, x := range l {
		if !good(x) {
			return false
		}
	}
	return true
}

// value is a declaration's value as a text, if it may have it.
func (w *writer) value(d api.Decl) (string, bool) {
	if d.Prop < 0 || d.Prop >= len(w.properties) {
		return "", false
	}
	return w.properties[d.Prop].values.text(d.Value)
}

func (w *writer) write(texts ...string) {
	for _, s := range texts {
		w.text.WriteString(s)
	}
}

func (w *writer) rule(r api.Rule) {
	for i, x := range r.Selectors {
		if i > 0 {
			w.write(", ")
		}
		w.selector(x)
	}
	w.write(" { ")
	for i, d := range r.Decls {
		if i > 0 {
			w.write("; ")
		}
		w.decl(d)
	}
	if len(r.Decls) > 0 {
		w.write(" ")
	}
	w.write("}\n")
}

func (w *writer) selector(x api.Selector) {
	for i, p := range x.Parts {
		if p.Child {
			w.write(" > ")
		} else if i > 0 {
			w.write(" ")
		}
		w.part(p)
	}
}

func (w *writer) part(p api.Part) {
	if p.Name == "" && p.Id == "" && len(p.Classes) == 0 {
		w.write("*")
	}
	w.write(p.Name)
	for _, c := range p.Classes {
		w.write(".", c)
	}
	if p.Id != "" {
		w.write("#", p.Id)
	}
}

func (w *writer) decl(d api.Decl) {
	value, _ := w.value(d)
	w.write(w.properties[d.Prop].name, ": ", value)
}
