package tree

import (
	"slices"

	"colophon/api"
)

// grow makes a tree of the tokens of a text that is so long, or tells the first
// of them that is wrong.
func grow(tokens []api.Token, long int) (doc api.Node, at int, err api.Errno) {
	r := reader{tokens: tokens, long: long, kinds: kinds(), ids: map[string]struct{}{}}
	defer func() {
		if recover() != nil {
			doc, at, err = api.Node{}, r.at(), r.err
		}
	}()
	var element func(depth int, linked bool) api.Node
	element = func(depth int, linked bool) api.Node {
		t := r.tokens[0]
		n := api.Node{Name: t.Name, Attrs: t.Attrs, At: t.At}
		r.tag(n)
		r.must(depth <= api.MaxNest, api.ErrDeep)
		r.count()
		linked = linked || n.Name == "a"
		if t.Kind == api.TokOpen {
			for r.take(); !r.closes(n); {
				if r.tokens[0].Kind == api.TokText {
					n.Kids = r.text(n)
					continue
				}
				r.place(n, linked)
				n.Kids = append(n.Kids, element(depth+1, linked))
			}
		}
		// It ends at this token, be it a closing tag or the empty one itself.
		r.must(len(n.Kids) > 0 || !r.kinds[n.Name].filled, api.ErrPlace)
		r.take()
		return n
	}
	r.blanks()
	r.must(r.opensDoc(), api.ErrTree)
	doc = element(1, false)
	r.blanks()
	r.must(len(r.tokens) == 0, api.ErrTree)
	return doc, 0, api.OK
}

// reader goes through tokens. The first of those that are left is the one that it
// is at, and that a fault is told of.
type reader struct {
	tokens []api.Token
	long   int
	kinds  map[string]kind
	ids    map[string]struct{} // those that were there
	nodes  int
	err    api.Errno
}

// at is the place of the token that it is at, or that of the text's end.
func (r *reader) at() int {
	if len(r.tokens) == 0 {
		return r.long
	}
	return r.tokens[0].At
}

// must gives up the text, unless all is well.
func (r *reader) must(well bool, err api.Errno) {
	if !well {
		r.err = err
		panic(err)
	}
}

func (r *reader) take() { r.tokens = r.tokens[1:] }

// blanks passes over a text around doc.
func (r *reader) blanks() {
	if len(r.tokens) > 0 && r.tokens[0].Kind == api.TokText && isBlank(r.tokens[0].Text) {
		r.take()
	}
}

func (r *reader) opensDoc() bool {
	return len(r.tokens) > 0 && r.tokens[0].Kind != api.TokClose && r.tokens[0].Name == "doc"
}

// closes tells whether an element ends here.
func (r *reader) closes(n api.Node) bool {
	r.must(len(r.tokens) > 0, api.ErrTree)
	t := r.tokens[0]
	if t.Kind != api.TokClose {
		return false
	}
	r.must(t.Name == n.Name, api.ErrTree)
	return true
}

// place asks whether the element that begins here may stand in another one, which
// is (or stands in) an a, or not.
func (r *reader) place(in api.Node, linked bool) {
	name := r.tokens[0].Name
	r.must(slices.Contains(r.kinds[in.Name].kids, name), api.ErrPlace)
	r.must(name != "a" || !linked, api.ErrPlace)
	r.must(name != "sheet" || len(in.Kids) == 0, api.ErrPlace)
}

// tag asks whether an element may have its attributes.
func (r *reader) tag(n api.Node) {
	for _, a := range n.Attrs {
		r.must(slices.Contains(r.kinds[n.Name].attrs, a.Name) && may(a), api.ErrPlace)
	}
	if n.Name == "a" {
		_, leads := Attr(n, "to")
		r.must(leads, api.ErrPlace)
	}
	if id, ok := Attr(n, "id"); ok {
		_, there := r.ids[id]
		r.must(!there, api.ErrId)
		r.ids[id] = struct{}{}
	}
}

// text is the kids of an element with the text that stands here, unless it is one
// that is left out.
func (r *reader) text(in api.Node) []api.Node {
	t, k := r.tokens[0], r.kinds[in.Name]
	if k.spaced && isBlank(t.Text) {
		r.take()
		return in.Kids
	}
	r.must(k.texts, api.ErrPlace)
	r.count()
	r.take()
	return append(in.Kids, api.Node{Text: t.Text, At: t.At})
}

// count takes one node more.
func (r *reader) count() {
	r.nodes++
	r.must(r.nodes <= api.MaxNodes, api.ErrLong)
}
