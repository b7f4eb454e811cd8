package glyph

import (
	"strings"

	"colophon/api"
)

const (
	composite    = 0xffff // instead of a number of contours
	mostContours = 32767
	boxSize      = 8
)

// Bits of a point's flag.
const (
	xByte    = 2
	yByte    = 4
	repeated = 8
	xNone    = 16
	yNone    = 32
)

// Bits of a component's flags.
const (
	wide       = 1 // what stands behind its number has four bytes
	scaled     = 8
	another    = 32
	stretched  = 64
	turned     = 128
	instructed = 256
)

// outline is what a glyph says of itself; the empty one says nothing.
type outline struct {
	points int   // of a simple one
	places []int // of a composite one: where its components' numbers stand
}

// reader stands at a place of a glyph.
type reader struct {
	s  string
	at int
}

// must gives up, unless all is well.
func must(well bool) {
	if !well {
		panic(api.ErrGlyph)
	}
}

func (r *reader) outline() outline {
	var o outline
	if r.s == "" {
		return o
	}
	contours := r.number()
	r.pass(boxSize)
	if contours == composite {
		o.places = r.components()
	} else {
		must(contours >= 1 && contours <= mostContours)
		o.points = r.points(contours)
		r.instructions()
		r.pass(r.flags(o.points))
	}
	must(strings.TrimLeft(r.s[r.at:], "\x00") == "")
	return o
}

// points is how many there are: each contour tells the number of its last one,
// from 0 on.
func (r *reader) points(contours int) int {
	last := -1
	for range contours {
		next := r.number()
		must(next > last)
		last = next
	}
	return last + 1
}

func (r *reader) instructions() { r.pass(r.number()) }

// flags passes over those of so many points, and tells how many bytes the
// points' coordinates have in all, whatever they say.
func (r *reader) flags(left int) int {
	size := 0
flags:
	for left > 0 {
		f, more := r.flag()
		for {
			left--
			size += width(f, xByte, xNone) + width(f, yByte, yNone)
			if more == 0 {
				continue flags
			}
			must(left > 0)
			more--
		}
	}
	return size
}

// flag is that of the next point, and of how many more.
func (r *reader) flag() (f, more int) {
	f = number(r.pass(1))
	if f&repeated != 0 {
		more = number(r.pass(1))
	}
	return f, more
}

// width is how many bytes a coordinate has.
func width(f, one, none int) int {
	switch {
	case f&one != 0:
		return 1
	case f&none != 0:
		return 0
	}
	return 2
}

// components tells where their numbers stand.
func (r *reader) components() []int {
	var places []int
	for {
		must(len(places) < api.MaxParts)
		f := r.number()
		places = append(places, r.at)
		r.pass(2 + offset(f) + matrix(f))
		if f&another != 0 {
			continue
		}
		if f&instructed != 0 {
			r.instructions()
		}
		return places
	}
}

// offset is how many bytes say where a component is put.
func offset(f int) int {
	if f&wide != 0 {
		return 4
	}
	return 2
}

// matrix is how many bytes say how a component is scaled.
func matrix(f int) int {
	bits := f & (scaled | stretched | turned)
	switch bits {
	case scaled:
		return 2
	case stretched:
		return 4
	case turned:
		return 8
	}
	must(bits == 0)
	return 0
}

// pass goes on by so many bytes, and tells them.
func (r *reader) pass(count int) string {
	must(count <= len(r.s)-r.at)
	from := r.at
	r.at += count
	return r.s[from:r.at]
}

func (r *reader) number() int { return number(r.pass(2)) }
