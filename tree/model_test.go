package tree_test

import (
	"fmt"
	"regexp"
	"slices"
	"strings"
	"testing"

	"colophon/api"
	"colophon/marks"
	"colophon/tree"
)

// The chapter's words once more, in another way: where an element may stand is a
// form of the names on the way to it, a tree is the list of its lines, and it may
// be printed if what is written of it is read as these lines.

const (
	mostNested = 32
	mostNodes  = 4096
	mostBytes  = 1 << 20
)

const nameForm = `[a-z][a-z0-9-]{0,15}`

var (
	inlinePath   = `(?:doc/(?:h1|h2|h3|p)|doc/table/row/cell)(?:/(?:b|i|span|a))*`
	elementPaths = regexp.MustCompile(`\A(?:doc(?:/(?:sheet|table|break|table/row))?|` + inlinePath + `)\z`)
	textPaths    = regexp.MustCompile(`\A(?:doc/sheet|` + inlinePath + `)\z`)
	spacedPaths  = regexp.MustCompile(`\A(?:|doc|doc/table|doc/table/row)\z`)
	filledPaths  = regexp.MustCompile(`\Adoc/table(?:/row)?\z`)
	twoLinks     = regexp.MustCompile(`/a/(?:.*/)?a(?:/|\z)`)
	attributes   = regexp.MustCompile(`\A(?:` +
		`(?:doc|h1|h2|h3|p|table|row|cell|b|i|span|a) (?:id=` + nameForm + `|class=` + nameForm + `(?: ` + nameForm + `)*)` +
		`|row head=yes|cell cols=(?:[1-9]|1[0-6])|cell rows=(?:[1-9][0-9]?|1[01][0-9]|12[0-8])|a to=` + nameForm + `)\z`)
	blankText  = regexp.MustCompile(`\A[\x09\x0a\x0d\x20]*\z`)
	blankSpace = regexp.MustCompile(`[\x09\x0a\x0d\x20]+`)
	escaper    = strings.NewReplacer("<", "&lt;", ">", "&gt;", "&", "&amp;", "\"", "&quot;")
)

// line is a node without its kids.
type line struct {
	depth      int
	name, text string
	attrs      string
	at         int
}

func attrsOf(l []api.Attr) string {
	var s strings.Builder
	for _, a := range l {
		fmt.Fprintf(&s, "%q=%q ", a.Name, a.Value)
	}
	return s.String()
}

// lines are a node, and what stands in it, in order.
func lines(n api.Node) []line { return appendLines(nil, n, 0) }

func appendLines(l []line, n api.Node, depth int) []line {
	l = append(l, line{depth, n.Name, n.Text, attrsOf(n.Attrs), n.At})
	for _, k := range n.Kids {
		l = appendLines(l, k, depth+1)
	}
	return l
}

// modelReader has what is known when the tokens ahead are read.
type modelReader struct {
	open  []string // the names of the elements that are open
	lines []line
	ids   []string
	ended bool
}

// add is a node more.
func (m *modelReader) add(t api.Token) {
	m.lines = append(m.lines, line{len(m.open), t.Name, t.Text, attrsOf(t.Attrs), t.At})
}

// empty tells whether nothing stands in the innermost open element.
func (m *modelReader) empty() bool { return m.lines[len(m.lines)-1].depth < len(m.open) }

func (m *modelReader) closing(t api.Token) api.Errno {
	last := len(m.open) - 1
	if last < 0 || m.open[last] != t.Name {
		return api.ErrTree
	}
	if filledPaths.MatchString(strings.Join(m.open, "/")) && m.empty() {
		return api.ErrPlace
	}
	m.open = m.open[:last]
	m.ended = last == 0
	return api.OK
}

func (m *modelReader) text(t api.Token) api.Errno {
	path := strings.Join(m.open, "/")
	switch {
	case spacedPaths.MatchString(path) && blankText.MatchString(t.Text):
		return api.OK
	case path == "":
		return api.ErrTree
	case !textPaths.MatchString(path):
		return api.ErrPlace
	case len(m.lines) == mostNodes:
		return api.ErrLong
	}
	m.add(t)
	return api.OK
}

// tag is that of an opening or empty tag.
func (m *modelReader) tag(t api.Token) api.Errno {
	path := strings.Join(append(slices.Clone(m.open), t.Name), "/")
	leads, id := false, ""
	places := elementPaths.MatchString(path) && !twoLinks.MatchString(path) && (t.Name != "sheet" || len(m.lines) == 1)
	for _, a := range t.Attrs {
		places = places && attributes.MatchString(t.Name+" "+a.Name+"="+a.Value)
		leads = leads || a.Name == "to"
		if a.Name == "id" {
			id = a.Value
		}
	}
	switch {
	case len(m.open) == 0 && (m.ended || t.Name != "doc"):
		return api.ErrTree
	case !places || t.Name == "a" && !leads:
		return api.ErrPlace
	case id != "" && slices.Contains(m.ids, id):
		return api.ErrId
	case strings.Count(path, "/") == mostNested:
		return api.ErrDeep
	case len(m.lines) == mostNodes:
		return api.ErrLong
	}
	if id != "" {
		m.ids = append(m.ids, id)
	}
	m.add(t)
	m.open = append(m.open, t.Name)
	if t.Kind == api.TokEmpty {
		return m.closing(t)
	}
	return api.OK
}

func modelParse(s string) ([]line, int, api.Errno) {
	tokens, at, err := marks.Scan(s)
	if err != api.OK {
		return nil, at, err
	}
	var m modelReader
	for _, t := range tokens {
		read := map[int]func(api.Token) api.Errno{api.TokText: m.text, api.TokClose: m.closing, api.TokOpen: m.tag, api.TokEmpty: m.tag}[t.Kind]
		if err := read(t); err != api.OK {
			return nil, t.At, err
		}
	}
	if !m.ended {
		return nil, len(s), api.ErrTree
	}
	return m.lines, 0, api.OK
}

// modelWrite writes whatever a node says.
func modelWrite(n api.Node) string {
	if n.Name == "" {
		return escaper.Replace(n.Text)
	}
	var s strings.Builder
	s.WriteString("<" + n.Name)
	for _, a := range n.Attrs {
		s.WriteString(" " + a.Name + "=\"" + escaper.Replace(a.Value) + "\"")
	}
	if len(n.Kids) == 0 {
		return s.String() + "/>"
	}
	s.WriteString(">")
	for _, k := range n.Kids {
		s.WriteString(modelWrite(k))
	}
	return s.String() + "</" + n.Name + ">"
}

// placeless are lines without their places.
func placeless(l []line) []line {
	l = slices.Clone(l)
	for i := range l {
		l[i].at = 0
	}
	return l
}

// modelPrint is Print of a node whose text is not too long.
func modelPrint(n api.Node) (string, api.Errno) {
	s := modelWrite(n)
	l, _, err := modelParse(s)
	if err != api.OK || !slices.Equal(placeless(l), placeless(lines(n))) {
		return "", api.ErrTree
	}
	return s, api.OK
}

// modelText is what a block's words are cut from.
func modelText(n api.Node) string {
	var s strings.Builder
	if n.Name == "" {
		s.WriteString(n.Text)
	}
	for _, k := range n.Kids {
		if n.Name != "sheet" {
			s.WriteString(modelText(k))
		}
	}
	return s.String()
}

func modelWords(n api.Node) []string {
	var l []string
	if slices.Contains([]string{"h1", "h2", "h3", "p", "cell"}, n.Name) {
		for _, w := range blankSpace.Split(modelText(n), -1) {
			if w != "" {
				l = append(l, w)
			}
		}
	}
	for _, k := range n.Kids {
		l = append(l, modelWords(k)...)
	}
	return l
}

func modelAttr(n api.Node, name string) (string, bool) {
	i := slices.IndexFunc(n.Attrs, func(a api.Attr) bool { return a.Name == name })
	if i < 0 {
		return "", false
	}
	return n.Attrs[i].Value, true
}

func modelSame(a, b api.Node) bool { return slices.Equal(placeless(lines(a)), placeless(lines(b))) }

// tell shows a text, or a node, in few characters.
func tell(x any) string {
	s := fmt.Sprintf("%q", x)
	if n, ok := x.(api.Node); ok {
		s = fmt.Sprintf("%+v", n)
	}
	if len(s) > 300 {
		s = s[:300] + ".."
	}
	return s
}

// as fails, unless Parse answers what the model does; it tells the error.
func as(t *testing.T, what, s string) api.Errno {
	t.Helper()
	n, at, err := tree.Parse(s)
	l, place, e := modelParse(s)
	same := err == e && at == place
	if err == api.OK {
		same = same && slices.Equal(lines(n), l)
	} else {
		same = same && isZero(n)
	}
	if !same {
		t.Errorf("%s: Parse(%s) is %s, %d, %v; asked: %v, %d, %v", what, tell(s), tell(n), at, err, l, place, e)
	}
	return err
}

func isZero(n api.Node) bool {
	return n.Name == "" && n.Text == "" && len(n.Attrs) == 0 && len(n.Kids) == 0 && n.At == 0
}

// refused fails, unless Parse answers that error at that place, and so does the model.
func refused(t *testing.T, what, s string, at int, err api.Errno) {
	t.Helper()
	if n, place, e := tree.Parse(s); !isZero(n) || place != at || e != err {
		t.Errorf("%s: Parse(%s) is %s, %d, %v; asked: %d, %v", what, tell(s), tell(n), place, e, at, err)
	}
	as(t, what, s)
}

// taken fails, unless Parse answers a tree.
func taken(t *testing.T, what, s string) {
	t.Helper()
	if err := as(t, what, s); err != api.OK {
		t.Errorf("%s: Parse(%s): %v", what, tell(s), err)
	}
}

// shows fails, unless Parse answers just that tree, with its places.
func shows(t *testing.T, s string, want api.Node) {
	t.Helper()
	n, at, err := tree.Parse(s)
	if !slices.Equal(lines(n), lines(want)) || at != 0 || err != api.OK {
		t.Errorf("Parse(%s) is %s, %d, %v; asked: %s", tell(s), tell(n), at, err, tell(want))
	}
	as(t, "a tree", s)
}

// prints fails, unless Print answers what the model does; it tells the error.
func prints(t *testing.T, what string, n api.Node) api.Errno {
	t.Helper()
	s, err := tree.Print(n)
	if want, e := modelPrint(n); s != want || err != e {
		t.Errorf("%s: Print(%s) is %s, %v; asked: %s, %v", what, tell(n), tell(s), err, tell(want), e)
	}
	return err
}

// writes fails, unless Print answers just that text.
func writes(t *testing.T, want string, n api.Node) {
	t.Helper()
	if s, err := tree.Print(n); s != want || err != api.OK {
		t.Errorf("Print(%s) is %s, %v; asked: %s", tell(n), tell(s), err, tell(want))
	}
	prints(t, "a tree", n)
}

// unwritten fails, unless Print answers that error.
func unwritten(t *testing.T, what string, err api.Errno, n api.Node) {
	t.Helper()
	if s, e := tree.Print(n); s != "" || e != err {
		t.Errorf("%s: Print(%s) is %s, %v; asked: %v", what, tell(n), tell(s), e, err)
	}
}

// none fails, unless Print answers that it is no tree.
func none(t *testing.T, what string, n api.Node) {
	t.Helper()
	unwritten(t, what, api.ErrTree, n)
	prints(t, what, n)
}

// words fails, unless Words answers just these.
func words(t *testing.T, n api.Node, want ...string) {
	t.Helper()
	got := tree.Words(n)
	if !slices.Equal(got, want) || !slices.Equal(modelWords(n), want) {
		t.Errorf("Words(%s) is %s; asked: %s; model: %s", tell(n), tell(got), tell(want), tell(modelWords(n)))
	}
}

// Nodes.

func text(s string) api.Node { return api.Node{Text: s} }

// el is an element, with attributes as "id=a to=b".
func el(name, attrs string, kids ...api.Node) api.Node {
	n := api.Node{Name: name, Kids: kids}
	for _, a := range strings.Fields(attrs) {
		name, value, _ := strings.Cut(a, "=")
		n.Attrs = append(n.Attrs, api.Attr{Name: name, Value: value})
	}
	return n
}

// having is a node with one attribute more.
func having(n api.Node, name, value string) api.Node {
	n.Attrs = append(slices.Clone(n.Attrs), api.Attr{Name: name, Value: value})
	return n
}

func at(place int, n api.Node) api.Node {
	n.At = place
	return n
}

func doc(kids ...api.Node) api.Node { return el("doc", "", kids...) }

func para(kids ...api.Node) api.Node { return el("p", "", kids...) }

// nested are so many elements in one another, with something within.
func nested(many int, name string, within ...api.Node) []api.Node {
	for range many {
		within = []api.Node{el(name, "", within...)}
	}
	return within
}

// numbers gives numbers as if by chance.
func numbers(seed int) func(below int) int {
	x := uint64(seed)*0x9e3779b97f4a7c15 + 0x1234567
	return func(below int) int {
		x = x*6364136223846793005 + 1442695040888963407
		return int((x >> 33) % uint64(below))
	}
}
