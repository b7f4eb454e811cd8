package emit

import (
	"strconv"
	"strings"

	"colophon/api"
	"colophon/digits"
)

const (
	glyphDigits = 4 // that a glyph is written with
	hexDigits   = "0123456789abcdef"
)

// writer gathers the lines of marks that may stand.
type writer struct{ text []byte }

// kindLines is what writes the lines of a kind's marks.
type kindLines struct {
	kind  int
	write func(m api.Mark)
}

func (w *writer) table() []kindLines {
	return []kindLines{
		{api.MarkText, w.show},
		{api.MarkRule, w.fill},
		{api.MarkClip, w.clip},
		{api.MarkEnd, w.end},
	}
}

// write writes a mark by its kind's row.
func write(table []kindLines, m api.Mark) {
	for _, row := range table {
		if row.kind == m.Kind {
			row.write(m)
		}
	}
}

// room tells whether a mark's glyphs alone would not be too long.
func room(m api.Mark) bool { return len(m.Glyphs) <= api.MaxBytes/glyphDigits }

func (w *writer) show(m api.Mark) {
	w.line("BT")
	w.line("/F"+strconv.Itoa(m.Font), number(m.Size), "Tf")
	w.line("1 0 0 1", number(m.X), number(m.Y), "Tm")
	w.line(glyphs(m.Glyphs), "Tj")
	w.line("ET")
}

func (w *writer) fill(m api.Mark) {
	w.box(m.Box)
	w.line("f")
}

func (w *writer) clip(m api.Mark) {
	w.line("q")
	w.box(m.Box)
	w.line("W n")
}

func (w *writer) end(api.Mark) { w.line("Q") }

func (w *writer) box(r api.Rect) {
	w.line(number(r.X0), number(r.Y0), number(r.X1-r.X0), number(r.Y1-r.Y0), "re")
}

func (w *writer) line(words ...string) {
	w.text = append(w.text, strings.Join(words, " ")...)
	w.text = append(w.text, '\n')
}

// number is the text of a length that is in, as all of marks that may stand are.
func number(x int) string {
	text, _ := digits.Text(x)
	return text
}

func glyphs(l []int) string {
	text := make([]byte, 0, glyphDigits*len(l)+2)
	text = append(text, '<')
	for _, g := range l {
		text = append(text, hexDigits[g>>12&15], hexDigits[g>>8&15], hexDigits[g>>4&15], hexDigits[g&15])
	}
	return string(append(text, '>'))
}
