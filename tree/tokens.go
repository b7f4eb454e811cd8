package tree

import "colophon/api"

// tokensOf are what is written of a node; or false, if it has more nodes than a
// tree: so one of any size is not gone through to its end.
func tokensOf(n api.Node) ([]api.Token, bool) {
	var w writer
	ok := w.write(n)
	return w.tokens, ok
}

type writer struct {
	tokens []api.Token
	nodes  int
}

func (w *writer) write(n api.Node) bool {
	w.nodes++
	if w.nodes > api.MaxNodes {
		return false
	}
	if n.Name == "" {
		w.tokens = append(w.tokens, api.Token{Kind: api.TokText, Text: n.Text})
		return true
	}
	if len(n.Kids) == 0 {
		w.tokens = append(w.tokens, api.Token{Kind: api.TokEmpty, Name: n.Name, Attrs: n.Attrs})
		return true
	}
	w.tokens = append(w.tokens, api.Token{Kind: api.TokOpen, Name: n.Name, Attrs: n.Attrs})
	for _, k := range n.Kids {
		if !w.write(k) {
			return false
		}
	}
	w.tokens = append(w.tokens, api.Token{Kind: api.TokClose, Name: n.Name})
	return true
}
