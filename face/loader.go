package face

import (
	"colophon/api"
	"colophon/cmap"
	"colophon/glyph"
	"colophon/metrics"
	"colophon/sfnt"
)

// loader is how far a file is read, and, if that was given up, why.
type loader struct {
	file   string
	tables []api.Table
	made   api.Face
	fault  api.Errno
}

// steps are in the order of their errors; each needs what those ahead have read.
func (l *loader) steps() []func() {
	return []func(){l.directory, l.metrics, l.outlines, l.characters, l.whole}
}

// must gives up, unless all is well.
func (l *loader) must(err api.Errno) {
	if err != api.OK {
		l.fault = err
		panic(err)
	}
}

// table is a table's data; lacking is the error if it is not there.
func (l *loader) table(tag string, lacking api.Errno) string {
	data, ok := sfnt.Find(l.tables, tag)
	if !ok {
		l.must(lacking)
	}
	return data
}

func (l *loader) directory() {
	tables, err := sfnt.Read(l.file)
	l.must(err)
	l.tables = tables
}

func (l *loader) metrics() {
	m, err := metrics.Read(l.tables)
	l.must(err)
	l.made.M = m
}

func (l *loader) outlines() {
	loca, glyf := l.table("loca", api.ErrGlyph), l.table("glyf", api.ErrGlyph)
	glyphs, err := glyph.Split(loca, glyf, l.count(), l.made.M.Long)
	l.must(err)
	l.made.Glyphs = glyphs
}

func (l *loader) characters() {
	chars, err := cmap.Read(l.table("cmap", api.ErrCmap), l.count())
	l.must(err)
	l.made.Chars = chars
}

func (l *loader) whole() { l.must(Check(l.made)) }

// count is how many glyphs there must be.
func (l *loader) count() int { return len(l.made.M.Advance) }
