package sheet_test

import (
	"fmt"
	"math/big"
	"reflect"
	"regexp"
	"strings"
	"testing"

	"colophon/api"
	"colophon/sheet"
)

// A second way to work out the chapter's words: forms of whole rules, cut apart
// at their commas and semicolons, where the package reads byte by byte; matches
// by trying out all places of all parts.

const (
	blankBytes = "\t\n\r "
	nameForm   = `[a-z][a-z0-9-]{0,15}`
	partForm   = `(?:(?:` + nameForm + `|\*)(?:[.#]` + nameForm + `)*|(?:[.#]` + nameForm + `)+)`
	endOfPart  = `[\t\n\r ]*>[\t\n\r ]*|[\t\n\r ]+`
)

var (
	selectorIs = regexp.MustCompile(`^` + partForm + `(?:(?:` + endOfPart + `)` + partForm + `)*$`)
	behindPart = regexp.MustCompile(endOfPart)
	anElement  = regexp.MustCompile(`^` + nameForm)
	aClass     = regexp.MustCompile(`\.` + nameForm)
	anId       = regexp.MustCompile(`#` + nameForm)
	declIs     = regexp.MustCompile(`^([a-z]+)[\t\n\r ]*:[\t\n\r ]*([^\t\n\r ]+)$`)
	lengthIs   = regexp.MustCompile(`^(-?[0-9]+(?:\.[0-9]+)?)pt$`)
)

// mayBe is what each property may be: words for the numbers from 0 on, or lengths
// from so many points on.
func mayBe() []struct{ name, words, from string } {
	return []struct{ name, words, from string }{
		{"font", "0 1 2 3 4 5 6 7 8 9", ""},
		{"size", "", "1"},
		{"leading", "", "1"},
		{"align", "justify left right center", ""},
		{"indent", "", "0"},
		{"above", "", "0"},
		{"below", "", "0"},
		{"keep", "no yes", ""},
		{"hyphens", "no yes", ""},
	}
}

// modelLength is how many 65536ths are nearest to a number.
func modelLength(s string) *big.Int {
	x, _ := new(big.Rat).SetString(s)
	x.Mul(x, big.NewRat(2*65536, 1))
	x.Add(x, big.NewRat(1, 1))
	return new(big.Int).Div(x.Num(), new(big.Int).Mul(big.NewInt(2), x.Denom()))
}

func modelDecl(s string) (api.Decl, bool) {
	m := declIs.FindStringSubmatch(strings.Trim(s, blankBytes))
	if m == nil {
		return api.Decl{}, false
	}
	for prop, may := range mayBe() {
		if may.name != m[1] {
			continue
		}
		for x, w := range strings.Fields(may.words) {
			if w == m[2] {
				return api.Decl{Prop: prop, Value: x}, true
			}
		}
		l := lengthIs.FindStringSubmatch(m[2])
		if may.from == "" || l == nil || len(l[1]) > 40 {
			return api.Decl{}, false
		}
		x := modelLength(l[1])
		return api.Decl{Prop: prop, Value: int(x.Int64())}, x.Cmp(modelLength(may.from)) >= 0 && x.Cmp(modelLength("1000")) <= 0
	}
	return api.Decl{}, false
}

func modelPart(s string) (api.Part, bool) {
	p := api.Part{Name: anElement.FindString(s)}
	for _, c := range aClass.FindAllString(s, -1) {
		p.Classes = append(p.Classes, c[1:])
	}
	ids := anId.FindAllString(s, -1)
	if len(ids) == 1 {
		p.Id = ids[0][1:]
	}
	return p, len(ids) <= 1 && len(p.Classes) <= 16
}

func modelSelector(s string) (x api.Selector, well bool) {
	s = strings.Trim(s, blankBytes)
	if !selectorIs.MatchString(s) {
		return x, false
	}
	child := false
	for {
		end := behindPart.FindStringIndex(s)
		if end == nil {
			end = []int{len(s), len(s)}
		}
		p, ok := modelPart(s[:end[0]])
		p.Child = child
		x.Parts = append(x.Parts, p)
		if !ok || s[end[0]:] == "" {
			return x, ok && len(x.Parts) <= 16
		}
		child = strings.Contains(s[end[0]:end[1]], ">")
		s = s[end[1]:]
	}
}

// modelRule reads a whole rule, but for its }.
func modelRule(s string) (r api.Rule, well bool) {
	head, body, ok := strings.Cut(s, "{")
	if !ok {
		return r, false
	}
	for _, one := range strings.Split(head, ",") {
		x, ok := modelSelector(one)
		if !ok {
			return r, false
		}
		r.Selectors = append(r.Selectors, x)
	}
	body = strings.Trim(body, blankBytes)
	if body == "" {
		return r, len(r.Selectors) <= 16
	}
	for _, one := range strings.Split(strings.TrimSuffix(body, ";"), ";") {
		d, ok := modelDecl(one)
		if !ok {
			return r, false
		}
		r.Decls = append(r.Decls, d)
	}
	return r, len(r.Selectors) <= 16 && len(r.Decls) <= 16
}

func modelParse(s string) ([]api.Rule, int, api.Errno) {
	if len(s) > 1<<20 {
		return nil, 0, api.ErrLong
	}
	var l []api.Rule
	rest := s
	for {
		rest = strings.TrimLeft(rest, blankBytes)
		if rest == "" {
			return l, 0, api.OK
		}
		at := len(s) - len(rest)
		if len(l) == 256 {
			return nil, at, api.ErrLong
		}
		text, behind, ok := strings.Cut(rest, "}")
		r, well := modelRule(text)
		if !ok || !well {
			return nil, at, api.ErrSheet
		}
		l, rest = append(l, r), behind
	}
}

func modelPoints(x int) string {
	s := big.NewRat(int64(x), 65536).FloatString(16)
	return strings.TrimSuffix(strings.TrimRight(s, "0"), ".")
}

// modelWrite writes what may be no rules at all.
func modelWrite(l []api.Rule) string {
	var lines strings.Builder
	for _, r := range l {
		var selectors, decls []string
		for _, x := range r.Selectors {
			s := ""
			for i, p := range x.Parts {
				if i > 0 {
					s += map[bool]string{true: " > ", false: " "}[p.Child]
				}
				one := p.Name
				for _, c := range p.Classes {
					one += "." + c
				}
				if p.Id != "" {
					one += "#" + p.Id
				}
				if one == "" {
					one = "*"
				}
				s += one
			}
			selectors = append(selectors, s)
		}
		for _, d := range r.Decls {
			decls = append(decls, modelWriteDecl(d))
		}
		body := strings.Join(decls, "; ")
		if len(decls) > 0 {
			body += " "
		}
		lines.WriteString(strings.Join(selectors, ", ") + " { " + body + "}\n")
	}
	return lines.String()
}

func modelWriteDecl(d api.Decl) string {
	if d.Prop < 0 || d.Prop > 8 {
		return "?: ?"
	}
	may := mayBe()[d.Prop]
	if may.from != "" {
		return may.name + ": " + modelPoints(d.Value) + "pt"
	}
	words := strings.Fields(may.words)
	if d.Value < 0 || d.Value >= len(words) {
		return "?: ?"
	}
	return may.name + ": " + words[d.Value]
}

// modelPrint writes rules, if each is read from what is written of it.
func modelPrint(l []api.Rule) (string, api.Errno) {
	if len(l) > 256 {
		return "", api.ErrSheet
	}
	for _, r := range l {
		one := []api.Rule{r}
		back, _, err := modelParse(modelWrite(one))
		if err != api.OK || !modelSame(back, one) {
			return "", api.ErrSheet
		}
	}
	s := modelWrite(l)
	if len(s) > 1<<20 {
		return "", api.ErrLong
	}
	return s, api.OK
}

// modelSame holds copies against each other in which empty lists are none.
func modelSame(a, b []api.Rule) bool { return reflect.DeepEqual(copied(a), copied(b)) }

func copied(l []api.Rule) []api.Rule {
	var out []api.Rule
	for _, r := range l {
		c := api.Rule{Decls: append([]api.Decl(nil), r.Decls...)}
		for _, x := range r.Selectors {
			c.Selectors = append(c.Selectors, copiedSelector(x))
		}
		out = append(out, c)
	}
	return out
}

func copiedSelector(x api.Selector) (c api.Selector) {
	for _, p := range x.Parts {
		p.Classes = append([]string(nil), p.Classes...)
		c.Parts = append(c.Parts, p)
	}
	return c
}

func modelFits(p api.Part, f api.Facts) bool {
	there := map[string]int{}
	for _, c := range f.Classes {
		there[c]++
	}
	for _, c := range p.Classes {
		if there[c] == 0 {
			return false
		}
	}
	return (p.Name == f.Name || p.Name == "") && (p.Id == f.Id || p.Id == "")
}

// modelMatch tries all elements that the part ahead may fit.
func modelMatch(parts []api.Part, path []api.Facts) bool {
	if len(parts) == 0 || len(path) == 0 {
		return false
	}
	last, ahead := parts[len(parts)-1], parts[:len(parts)-1]
	if !modelFits(last, path[len(path)-1]) {
		return false
	}
	if len(ahead) == 0 {
		return true
	}
	for i := range len(path) - 1 {
		if (!last.Child || i == len(path)-2) && modelMatch(ahead, path[:i+1]) {
			return true
		}
	}
	return false
}

func modelWeight(x api.Selector) (w [3]int) {
	for _, p := range x.Parts {
		w[0] += min(1, len(p.Id))
		for range p.Classes {
			w[1]++
		}
		w[2] += min(1, len(p.Name))
	}
	return w
}

// What all tests use.

func numbers(seed int) func(below int) int {
	state := uint64(seed)*0x9e3779b97f4a7c15 + 12345
	return func(below int) int {
		state = state*6364136223846793005 + 1442695040888963407
		return int(state >> 33 % uint64(below))
	}
}

func tell(x any) string {
	s := fmt.Sprintf("%+v", x)
	if text, ok := x.(string); ok {
		s = fmt.Sprintf("%q", text)
	}
	if len(s) > 300 {
		return fmt.Sprintf("%s... (%d bytes)", s[:300], len(s))
	}
	return s
}

// as asks that a text is read as the model reads it.
func as(t *testing.T, what, s string) api.Errno {
	t.Helper()
	got, at, err := sheet.Parse(s)
	want, place, asked := modelParse(s)
	if !modelSame(got, want) || at != place || err != asked {
		t.Errorf("%s: Parse(%s) is %s, %d, %v; asked: %s, %d, %v", what, tell(s), tell(got), at, err, tell(want), place, asked)
	}
	return err
}

// shows asks that a text is read as such rules.
func shows(t *testing.T, s string, want ...api.Rule) {
	t.Helper()
	as(t, "shown", s)
	got, at, err := sheet.Parse(s)
	if !modelSame(got, want) || at != 0 || err != api.OK {
		t.Errorf("Parse(%s) is %s, %d, %v; asked: %s", tell(s), tell(got), at, err, tell(want))
	}
}

// refused asks that the rule at a place of a text is none.
func refused(t *testing.T, what, s string, place int) {
	t.Helper()
	wrong(t, what, s, place, api.ErrSheet)
}

func wrong(t *testing.T, what, s string, place int, asked api.Errno) {
	t.Helper()
	as(t, what, s)
	got, at, err := sheet.Parse(s)
	if len(got) != 0 || at != place || err != asked {
		t.Errorf("%s: Parse(%s) is %s, %d, %v; asked: %d, %v", what, tell(s), tell(got), at, err, place, asked)
	}
}

// prints asks that rules are written as the model writes them.
func prints(t *testing.T, what string, l []api.Rule) api.Errno {
	t.Helper()
	got, err := sheet.Print(l)
	want, asked := modelPrint(l)
	if got != want || err != asked {
		t.Errorf("%s: Print(%s) is %s, %v; asked: %s, %v", what, tell(l), tell(got), err, tell(want), asked)
	}
	return err
}

// writes asks that rules are written as such a text.
func writes(t *testing.T, want string, l ...api.Rule) {
	t.Helper()
	prints(t, "written", l)
	if got, err := sheet.Print(l); got != want || err != api.OK {
		t.Errorf("Print(%s) is %s, %v; asked: %s", tell(l), tell(got), err, tell(want))
	}
}

// none asks that rules are not good.
func none(t *testing.T, what string, l ...api.Rule) {
	t.Helper()
	unwritten(t, what, api.ErrSheet, l...)
}

func unwritten(t *testing.T, what string, asked api.Errno, l ...api.Rule) {
	t.Helper()
	prints(t, what, l)
	if got, err := sheet.Print(l); got != "" || err != asked {
		t.Errorf("%s: Print(%s) is %s, %v; asked: %v", what, tell(l), tell(got), err, asked)
	}
}

// matches asks whether a selector matches a path, or not.
func matches(t *testing.T, x api.Selector, path []api.Facts, asked bool) {
	t.Helper()
	if got, model := sheet.Match(x, path), modelMatch(x.Parts, path); got != asked || got != model {
		t.Errorf("Match(%s, %s) is %v; asked: %v, by the model %v", tell(x), tell(path), got, asked, model)
	}
}

func weighs(t *testing.T, x api.Selector, want [3]int) {
	t.Helper()
	if got, model := sheet.Weight(x), modelWeight(x); got != want || got != model {
		t.Errorf("Weight(%s) is %v; asked: %v, by the model %v", tell(x), got, want, model)
	}
}

func same(t *testing.T, a, b []api.Rule, asked bool) {
	t.Helper()
	if got, back, model := sheet.Same(a, b), sheet.Same(b, a), modelSame(a, b); got != asked || back != asked || model != asked {
		t.Errorf("Same(%s, %s) is %v, the other way round %v; asked: %v, by the model %v", tell(a), tell(b), got, back, asked, model)
	}
}

// rule is one of some selectors, without declarations.
func rule(l ...api.Selector) api.Rule { return api.Rule{Selectors: l} }

// declares is a rule of everything.
func declares(l ...api.Decl) api.Rule { return api.Rule{Selectors: some(parts(star())), Decls: l} }

func decl(prop, value int) api.Decl { return api.Decl{Prop: prop, Value: value} }

func some(l ...api.Selector) []api.Selector { return l }

func parts(l ...api.Part) api.Selector { return api.Selector{Parts: l} }

func star() api.Part { return api.Part{} }

func named(name string, classes ...string) api.Part { return api.Part{Name: name, Classes: classes} }

func class(classes ...string) api.Part { return api.Part{Classes: classes} }

func id(id string, p api.Part) api.Part { p.Id = id; return p }

func child(p api.Part) api.Part { p.Child = true; return p }

// times is a list of so many.
func times[T any](n int, x T) []T {
	l := make([]T, n)
	for i := range l {
		l[i] = x
	}
	return l
}
