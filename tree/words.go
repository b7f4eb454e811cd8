package tree

import (
	"slices"
	"strings"

	"colophon/api"
)

// span is a stretch of a text.
type span struct{ from, to int }

// run is the text of nodes, one behind the other, and the stretches between its
// blanks. A block that stands in another one is a stretch of that one's text, so
// no node is gone through twice, however deep blocks stand in one another.
type run struct {
	text  strings.Builder
	words []span
	apart bool // whether the last word has ended
}

func (r *run) add(s string) {
	from := r.text.Len()
	r.text.WriteString(s)
	for i := range len(s) {
		switch {
		case strings.IndexByte(blanks, s[i]) >= 0:
			r.apart = true
		case r.apart || len(r.words) == 0:
			r.words = append(r.words, span{from + i, from + i + 1})
			r.apart = false
		default:
			r.words[len(r.words)-1].to = from + i + 1
		}
	}
}

// appendWords tells what a stretch has of each word.
func (r *run) appendWords(l []string, in span) []string {
	if in.from == in.to {
		return l
	}
	i, _ := slices.BinarySearchFunc(r.words, in.from, func(w span, from int) int {
		if w.to <= from {
			return -1
		}
		return 1
	})
	text := r.text.String()
	for ; i < len(r.words) && r.words[i].from < in.to; i++ {
		w := r.words[i]
		l = append(l, strings.Clone(text[max(w.from, in.from):min(w.to, in.to)]))
	}
	return l
}

// block is where the text of an element stands.
type block struct {
	in *run
	span
}

// gatherer has the blocks of nodes, in document order.
type gatherer struct{ blocks []block }

// walk goes through a node. The run is that of the block that it stands in, or
// nil, if it stands in none, or in a sheet: a sheet's texts are no part of the
// blocks around it.
func (g *gatherer) walk(n api.Node, in *run) {
	isOne := isBlock(n.Name)
	switch {
	case n.Name == "sheet":
		in = nil
	case isOne && in == nil:
		in = new(run)
	case n.Name == "" && in != nil:
		in.add(n.Text)
	}
	number := len(g.blocks)
	if isOne {
		g.blocks = append(g.blocks, block{in, span{from: in.text.Len()}})
	}
	for _, k := range n.Kids {
		g.walk(k, in)
	}
	if isOne {
		g.blocks[number].to = in.text.Len()
	}
}

func isBlock(name string) bool {
	switch name {
	case "h1", "h2", "h3", "p", "cell":
		return true
	}
	return false
}
