package cmap

import (
	"slices"

	"colophon/api"
)

// taker takes one code after another, with its glyph; false: no more.
type taker func(code, glyph int) bool

const (
	version  = "\x00\x00"
	headSize = 4
	rowSize  = 8
)

// Format 12.
const (
	wideFormat   = "\x00\x0c\x00\x00"
	wideHead     = 16
	groupSize    = 12
	wideSizeAt   = 4
	groupCountAt = 12
)

// Format 4: its head is what stands ahead of the lasts and the two bytes behind
// these.
const (
	narrowFormat = "\x00\x04"
	narrowHead   = 16
	segmentSize  = 8
	narrowSizeAt = 2
	twiceCountAt = 6
	lastsAt      = 14
	gap          = 2
	lastCode     = 0xffff
	modulus      = 1 << 16
)

// row tells of what kind a map is, and where it stands.
type row struct{ platform, encoding, place int }

func (r row) wide() bool {
	return r.platform == 3 && r.encoding == 10 || r.platform == 0 && r.encoding == 4
}

func (r row) narrow() bool {
	return r.platform == 3 && r.encoding == 1 || r.platform == 0 && r.encoding <= 3
}

// walk hands on what a table sends its codes to, rising. It is false if the
// table is not right, or no more is taken.
func walk(t string, n int, take taker) bool {
	rows := rowsOf(t)
	if i := slices.IndexFunc(rows, row.wide); i >= 0 {
		return walkGroups(from(t, rows[i].place), n, take)
	}
	if i := slices.IndexFunc(rows, row.narrow); i >= 0 {
		return walkSegments(from(t, rows[i].place), n, take)
	}
	return false
}

// rowsOf are a table's rows: none, if they are not all there.
func rowsOf(t string) []row {
	if len(t) < headSize || t[:len(version)] != version {
		return nil
	}
	count := two(t, len(version))
	if len(t) < headSize+rowSize*count {
		return nil
	}
	rows := make([]row, count)
	for i := range rows {
		at := headSize + rowSize*i
		rows[i] = row{two(t, at), two(t, at+2), four(t, at+4)}
	}
	return rows
}

// from is what stands at a place and behind it.
func from(t string, place int) string { return t[min(place, len(t)):] }

// walkGroups goes through format 12. What is asked of a group is asked of all
// its numbers, code points or not.
func walkGroups(s string, n int, take taker) bool {
	if len(s) < wideHead || s[:len(wideFormat)] != wideFormat {
		return false
	}
	count := four(s, groupCountAt)
	size := wideHead + groupSize*count
	if count > api.MaxSpans || four(s, wideSizeAt) != size || size > len(s) {
		return false
	}
	least := 0
	for i := range count {
		at := wideHead + groupSize*i
		first, last, glyph := four(s, at), four(s, at+4), four(s, at+8)
		if first < least || first > last || last > lastPoint || glyph+last-first >= n {
			return false
		}
		for j := range last - first + 1 {
			if isPoint(first+j) && !take(first+j, glyph+j) {
				return false
			}
		}
		least = last + 1
	}
	return true
}

// walkSegments goes through format 4.
func walkSegments(s string, n int, take taker) bool {
	if len(s) < narrowHead || s[:len(narrowFormat)] != narrowFormat {
		return false
	}
	size, twice := two(s, narrowSizeAt), two(s, twiceCountAt)
	count := twice / 2
	if twice%2 != 0 || count < 1 || size < narrowHead+segmentSize*count || size > len(s) {
		return false
	}
	s = s[:size]
	least := 0
	for i := range count {
		g := segmentOf(s, count, i)
		if g.first < least || g.first > g.last || !g.walk(s, n, take) {
			return false
		}
		least = g.last + 1
	}
	return least == lastCode+1
}

// segment is a stretch of codes of format 4; offset stands at place.
type segment struct{ first, last, delta, offset, place int }

// segmentOf is the segment with that number, from 0 on, of so many: the four
// lists stand one behind the other.
func segmentOf(s string, count, i int) segment {
	last := lastsAt + 2*i
	first := last + 2*count + gap
	delta := first + 2*count
	place := delta + 2*count
	return segment{two(s, first), two(s, last), two(s, delta), two(s, place), place}
}

// walk passes over those codes of which nothing is asked.
func (g segment) walk(s string, n int, take taker) bool {
	for i := range g.last - g.first + 1 {
		code := g.first + i
		if code == lastCode || !isPoint(code) {
			continue
		}
		glyph, ok := g.glyph(s, code)
		if !ok || glyph >= n || !take(code, glyph) {
			return false
		}
	}
	return true
}

// glyph is where a code goes, if that is told within the length.
func (g segment) glyph(s string, code int) (int, bool) {
	if g.offset == 0 {
		return (code + g.delta) % modulus, true
	}
	at := g.place + g.offset + 2*(code-g.first)
	if g.offset%2 != 0 || at+2 > len(s) {
		return 0, false
	}
	told := two(s, at)
	if told == 0 {
		return 0, true
	}
	return (told + g.delta) % modulus, true
}

// two is the number of two bytes at a place, the highest byte first.
func two(s string, at int) int { return int(s[at])<<8 | int(s[at+1]) }

func four(s string, at int) int { return two(s, at)<<16 | two(s, at+2) }
