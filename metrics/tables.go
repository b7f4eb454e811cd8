package metrics

import "colophon/api"

// How many bytes the tables have; those that are read may have more.
const (
	maxpLeast = 6
	maxpSize  = 32 // of one that is built
	headSize  = 54
	hheaSize  = 36
)

// Where their numbers stand.
const (
	countAt = 4  // in maxp: of glyphs
	zonesAt = 14 // in maxp

	revisionAt    = 4 // in head
	magicAt       = 12
	upemAt        = 18
	boxAt         = 36
	directionAt   = 48
	longAt        = 50
	glyphFormatAt = 52

	ascentAt      = 4 // in hhea
	descentAt     = 6
	gapAt         = 8
	greatestAt    = 10 // of the advances
	widthFormatAt = 32
	pairsAt       = 34
)

// What tables begin with, and what says that a table is head.
const (
	version     = "\x00\x01\x00\x00"
	halfVersion = "\x00\x00\x50\x00" // of a maxp without more than the count
	magic       = "\x5f\x0f\x3c\xf5"
)

// table is the bytes of a table that is read.
type table string

// says tells whether a text stands at a place.
func (t table) says(at int, text string) bool {
	return string(t[at:at+len(text)]) == text
}

// number is the one of two bytes at a place.
func (t table) number(at int) int { return int(t[at])<<8 | int(t[at+1]) }

// signed is the number at a place, below 0 from 32768 on.
func (t table) signed(at int) int { return int(int16(t.number(at))) }

// step is how a table is read: its tag, how many bytes it must have at least,
// and what takes it in and tells whether it is right.
type step struct {
	tag   string
	least int
	read  func(*reader, table) bool
}

// steps is in the order of the chapter's Words: hhea needs what maxp says, hmtx
// what both say.
func steps() []step {
	return []step{
		{"maxp", maxpLeast, (*reader).maxp},
		{"head", headSize, (*reader).head},
		{"hhea", hheaSize, (*reader).hhea},
		{"hmtx", 0, (*reader).hmtx},
	}
}

// reader is what the tables have said so far.
type reader struct {
	count int // glyphs
	pairs int // glyphs with an advance of their own
	told  api.Metrics
}

func (r *reader) maxp(t table) bool {
	r.count = t.number(countAt)
	return (t.says(0, halfVersion) || t.says(0, version)) && within(1, api.MaxGlyphs, r.count)
}

func (r *reader) head(t table) bool {
	long := t.number(longAt)
	r.told.Upem = t.number(upemAt)
	r.told.Long = long == 1
	for i := range r.told.Box {
		r.told.Box[i] = t.signed(boxAt + 2*i)
	}
	return t.says(0, version) && t.says(magicAt, magic) &&
		within(leastUpem, mostUpem, r.told.Upem) && within(0, 1, long) && t.number(glyphFormatAt) == 0
}

func (r *reader) hhea(t table) bool {
	r.pairs = t.number(pairsAt)
	r.told.Ascent = t.signed(ascentAt)
	r.told.Descent = t.signed(descentAt)
	r.told.Gap = t.signed(gapAt)
	return t.says(0, version) && t.number(widthFormatAt) == 0 && within(1, r.count, r.pairs)
}

// hmtx is pairs of an advance and a bearing; the glyphs behind them have the
// last pair's advance, and bearings of their own.
func (r *reader) hmtx(t table) bool {
	end := 4 * r.pairs
	if len(t) < end+2*(r.count-r.pairs) {
		return false
	}
	advance, bearing := make([]int, r.count), make([]int, r.count)
	for i := range r.pairs {
		advance[i], bearing[i] = t.number(4*i), t.signed(4*i+2)
	}
	for i := r.pairs; i < r.count; i++ {
		advance[i], bearing[i] = advance[r.pairs-1], t.signed(end+2*(i-r.pairs))
	}
	r.told.Advance, r.told.Bearing = advance, bearing
	return true
}
